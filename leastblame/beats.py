"""Beats: a work over one to three beats, with delays from each beat to the next."""

from leastblame.errors import NoBeats, NoWorld
from leastblame.ties import LONGEST_NAME, are_wires, renamed_tie, whole_within
from leastblame.works import Work, check_work
from leastblame.worlds import check_looks, is_world

# What a wire's name ends with, by the beat.
BEAT_LETTERS = "abc"


def over_beats(work, delays, *, beats=2):
    """The work over so many beats."""
    check_work(work)
    check_delays(work, delays)
    if not whole_within(beats, 1, len(BEAT_LETTERS)):
        raise NoBeats("beats")
    check_names(work)
    letters = BEAT_LETTERS[:beats]
    wires = [(name + letter, many) for letter in letters for name, many in work.wires()]
    parts = [(name, ties_over(work, ties, letters) + delays_over(delays, number, letters))
             for number, (name, ties) in enumerate(work.parts())]
    return Work(wires, parts)


def beat_looks(work, looks, *, beat):
    """The looks, told of that beat's wires."""
    check_work(work)
    check_looks(work, looks)
    if not whole_within(beat, 0, len(BEAT_LETTERS) - 1):
        raise NoBeats("beats")
    check_names(work)
    return [(word, wire + BEAT_LETTERS[beat], value) for word, wire, value in looks]


def beat_worlds(work, world):
    """The worlds of the beats, of a world over one to three beats."""
    check_work(work)
    width = len(work.wires())
    if not isinstance(world, list) or len(world) not in [width * (beat + 1) for beat in range(len(BEAT_LETTERS))]:
        raise NoWorld()
    worlds = [world[start:start + width] for start in range(0, len(world), width)]
    if not all([is_world(work, one) for one in worlds]):
        raise NoWorld()
    return worlds


def check_delays(work, delays):
    """Refuse with NoBeats what are no delays of the work."""
    if not isinstance(delays, list) or not all([is_delay(work, delay) for delay in delays]):
        raise NoBeats("delays")


def is_delay(work, thing):
    """Whether the thing, of any kind, is a delay."""
    if not isinstance(thing, tuple) or len(thing) != 4 or not whole_within(thing[0], 0, len(work) - 1):
        return False
    if not are_wires(thing[1:3], work.wire_places):
        return False
    many = work.wires()[work.wire_number(thing[1])][1]
    return thing[3] is None or whole_within(thing[3], 0, many - 1)


def check_names(work):
    """Refuse with NoBeats a work with a wire's name that leaves no room for a letter more."""
    if any([len(name) == LONGEST_NAME for name, many in work.wires()]):
        raise NoBeats("names")


def ties_over(work, ties, letters):
    """All the ties for each beat, of that beat's wires."""
    over = []
    for letter in letters:
        names = {name: name + letter for name, many in work.wires()}
        over.extend([renamed_tie(tie, names) for tie in ties])
    return over


def delays_over(delays, number, letters):
    """The ties of the delays of the part with this number."""
    over = []
    for part, out, told, first in delays:
        if part == number:
            if first is not None:
                over.append(("fixed", out + letters[0], first))
            over.extend([("same", out + now, told + ahead) for ahead, now in zip(letters, letters[1:])])
    return over
