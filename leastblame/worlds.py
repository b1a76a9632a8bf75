"""Worlds: which parts are sound in them, and which worlds fit a lot and looks."""

from leastblame.errors import NoLook, NoLot, NoWorld
from leastblame.ties import all_hold, whole_within
from leastblame.works import check_work

LOOK_WORDS = ("is", "isnt")


def is_world(work, thing):
    """Whether the thing, of any kind, is a world of the work."""
    check_work(work)
    wires = work.wires()
    if not isinstance(thing, list) or len(thing) != len(wires):
        return False
    return all([whole_within(value, 0, many - 1) for value, (name, many) in zip(thing, wires)])


def sound_in(work, world):
    """The lot of the parts that are sound in the world."""
    if not is_world(work, world):
        raise NoWorld()
    return tuple([number for number, ties in enumerate(work.placed_parts) if all_hold(ties, world)])


def first_world(work, lot, looks):
    """The first world that has the lot sound and meets the looks, or None."""
    worlds = all_worlds(work, lot, looks)
    return worlds[0] if worlds else None


def count_worlds(work, lot, looks):
    """How many worlds have the lot sound and meet the looks."""
    return len(all_worlds(work, lot, looks))


def all_worlds(work, lot, looks):
    """All worlds that have the lot sound and meet the looks, sorted."""
    check_work(work)
    check_lot(work, lot)
    check_looks(work, looks)
    ties = ties_by_last_wire(work, lot)
    worlds = [[]]
    # They grow wire by wire, and rise as they do; a tie drops them as soon as its last wire has a value.
    for number, values in enumerate(values_met(work, looks)):
        longer = [[*world, value] for world in worlds for value in values]
        worlds = [world for world in longer if all_hold(ties[number], world)]
    return worlds


def check_lot(work, lot):
    """Refuse with NoLot what is no lot of the work."""
    check_numbers(lot, len(work))


def check_numbers(lot, many):
    """Refuse with NoLot what is no lot of so many parts."""
    if not isinstance(lot, tuple):
        raise NoLot(None)
    least = 0
    for number, part in enumerate(lot):
        if not whole_within(part, least, many - 1):
            raise NoLot(number)
        least = part + 1


def is_lot(work, thing):
    """Whether the thing, of any kind, is a lot of the work."""
    try:
        check_lot(work, thing)
    except NoLot:
        return False
    return True


def check_looks(work, looks):
    """Refuse with NoLook what are no looks at the work."""
    if not isinstance(looks, list):
        raise NoLook(None)
    manys = dict(work.wires())
    for number, look in enumerate(looks):
        if not is_look(look, manys):
            raise NoLook(number)


def is_look(thing, manys):
    """Whether the thing, of any kind, is a look; manys are told by the wires' names."""
    if not isinstance(thing, tuple) or len(thing) != 3:
        return False
    word, wire, value = thing
    if not isinstance(word, str) or not isinstance(wire, str):
        return False
    return word in LOOK_WORDS and wire in manys and whole_within(value, 0, manys[wire] - 1)


def within(lot, other):
    """Whether all parts of the lot are in the other one."""
    return all([part in other for part in lot])


def fits(work, lot, looks, thing):
    """Whether the thing, of any kind, is a world that has the lot sound and meets the looks."""
    if not is_world(work, thing) or not within(lot, sound_in(work, thing)):
        return False
    return all([value in values for value, values in zip(thing, values_met(work, looks))])


def ties_by_last_wire(work, lot):
    """For each wire the placed ties of the lot's parts that name it, and none behind it."""
    grouped = [[] for wire in work.wires()]
    for part in lot:
        for tie in work.placed_parts[part]:
            grouped[max(tie[1])].append(tie)
    return grouped


def meets(value, look):
    """Whether the look's wire meets it by that value."""
    return (value == look[2]) == (look[0] == "is")


def values_met(work, looks):
    """For each wire its values that meet all looks at it."""
    values = [list(range(many)) for name, many in work.wires()]
    for look in looks:
        at = work.wire_number(look[1])
        values[at] = [value for value in values[at] if meets(value, look)]
    return values
