"""[11.1] and [11.2]: works over beats."""

import copy
import itertools
import random
import unittest

from leastblame.beats import beat_looks, beat_worlds, over_beats
from leastblame.blames import broken
from leastblame.clashes import clashing
from leastblame.errors import NoBeats, NoLook, NoWork, NoWorld
from leastblame.labels import lots_of
from leastblame.works import Work
from leastblame.worlds import all_worlds, sound_in

from helpers import TIES, Refusing, odd_things, some_looks, some_tie, sound_slowly, worlds_slowly
from papers import least_slowly, lots_slowly, met_slowly

# A part that turns what it kept, and one that keeps it for a beat.
WORK = Work([("x", 2), ("y", 3)], [("turn", [("turned", "y", "x")]), ("keep", [("same", "x", "x"), ("fixed", "y", 1)])])
DELAYS = [(1, "x", "y", 0), (1, "y", "x", None)]


class OverBeats(unittest.TestCase):
    def test_by_hand(self):
        wires = [("xa", 2), ("ya", 3), ("xb", 2), ("yb", 3), ("xc", 2), ("yc", 3)]
        turned = [("turned", "ya", "xa"), ("turned", "yb", "xb"), ("turned", "yc", "xc")]
        kept = [("same", "xa", "xa"), ("fixed", "ya", 1), ("same", "xb", "xb"), ("fixed", "yb", 1), ("same", "xc", "xc"),
                ("fixed", "yc", 1)]
        one = [("turn", turned[:1]), ("keep", kept[:2] + [("fixed", "xa", 0)])]
        two = [("turn", turned[:2]), ("keep", kept[:4] + [("fixed", "xa", 0), ("same", "xb", "ya"), ("same", "yb", "xa")])]
        three = [("turn", turned), ("keep", kept + [
            ("fixed", "xa", 0), ("same", "xb", "ya"), ("same", "xc", "yb"), ("same", "yb", "xa"), ("same", "yc", "xb")])]
        self.assertEqual(over_beats(WORK, DELAYS, beats=1), Work(wires[:2], one))
        self.assertEqual(over_beats(WORK, DELAYS, beats=2), Work(wires[:4], two))
        self.assertEqual(over_beats(WORK, DELAYS), Work(wires[:4], two))
        self.assertEqual(over_beats(beats=3, delays=DELAYS, work=WORK), Work(wires, three))
        self.assertRaises(TypeError, over_beats, WORK, DELAYS, 2)

    def test_ties_of_every_sort(self):
        wires = [("a", 2), ("b", 3), ("c", 4), ("d", 2)]
        told = over_beats(Work(wires, [("p", TIES)]), [], beats=1)
        self.assertEqual(told.wires(), [("aa", 2), ("ba", 3), ("ca", 4), ("da", 2)])
        self.assertEqual(told.parts(), [("p", [
            ("fixed", "aa", 1), ("same", "ba", "ca"), ("turned", "ca", "ba"), ("least", "ca", "ba", "aa"),
            ("most", "ca", "ba", "aa"), ("sum", "ba", "ca", "aa"), ("pick", "ca", "da", "aa", "ba"),
            ("rows", ("ba", "aa"), ((0, 1), (2, 0)))])])

    def test_no_delays_and_no_parts(self):
        self.assertEqual(over_beats(Work([("a", 2)]), [], beats=3), Work([("aa", 2), ("ab", 2), ("ac", 2)]))
        self.assertEqual(over_beats(WORK, []).parts()[0], ("turn", [("turned", "ya", "xa"), ("turned", "yb", "xb")]))

    def test_names_that_end_alike(self):
        work = Work([("x", 2), ("xa", 2), ("xb", 2)], [("p", [("most", "x", "xa", "xb")])])
        told = over_beats(work, [(0, "xa", "x", 1)])
        self.assertEqual(told.wires(), [(name, 2) for name in ("xa", "xaa", "xba", "xb", "xab", "xbb")])
        self.assertEqual(told.parts(), [("p", [
            ("most", "xa", "xaa", "xba"), ("most", "xb", "xab", "xbb"), ("fixed", "xaa", 1), ("same", "xab", "xa")])])

    def test_a_delay_twice_and_to_itself(self):
        told = over_beats(Work([("a", 3)], [("p", [("same", "a", "a")])]), [(0, "a", "a", 2), (0, "a", "a", 2)])
        self.assertEqual(told.parts()[0][1][2:], [("fixed", "aa", 2), ("same", "ab", "aa")] * 2)

    def test_just_as_much_as_may_be(self):
        eight = over_beats(Work(list(zip("abcd", [2, 3, 2, 3]))), [])
        self.assertEqual(len(eight.wires()), 8)
        most = Work([("a", 4), ("b", 4), ("c", 2)])
        self.assertEqual(len(over_beats(most, []).wires()), 6)
        ties = Work([("a", 2)], [("p", [("same", "a", "a")] * 11)])
        self.assertEqual(len(over_beats(ties, [(0, "a", "a", 1)]).parts()[0][1]), 24)
        self.assertEqual(len(over_beats(Work([("a", 2)], [("p", [("same", "a", "a")] * 8)]), [], beats=3).parts()[0][1]), 24)
        five = Work([("abcde", 2)], [("p", [("fixed", "abcde", 1)])])
        self.assertEqual(over_beats(five, []).wires(), [("abcdea", 2), ("abcdeb", 2)])


class Looks(unittest.TestCase):
    def test_by_hand(self):
        looks = [("is", "x", 1), ("isnt", "y", 2), ("is", "x", 1)]
        self.assertEqual(beat_looks(WORK, looks, beat=0), [("is", "xa", 1), ("isnt", "ya", 2), ("is", "xa", 1)])
        self.assertEqual(beat_looks(WORK, looks, beat=1), [("is", "xb", 1), ("isnt", "yb", 2), ("is", "xb", 1)])
        self.assertEqual(beat_looks(beat=2, looks=looks, work=WORK), [("is", "xc", 1), ("isnt", "yc", 2), ("is", "xc", 1)])
        self.assertEqual(beat_looks(WORK, [], beat=2), [])
        self.assertRaises(TypeError, beat_looks, WORK, looks, 0)
        self.assertRaises(TypeError, beat_looks, WORK, looks)

    def test_of_a_work_that_would_be_none_over_beats(self):
        wide = Work([(name, 2) for name in "abcdefgh"])
        self.assertEqual(beat_looks(wide, [("is", "h", 1)], beat=2), [("is", "hc", 1)])

    def test_worlds(self):
        self.assertEqual(beat_worlds(WORK, [1, 2]), [[1, 2]])
        self.assertEqual(beat_worlds(WORK, [1, 2, 0, 0]), [[1, 2], [0, 0]])
        self.assertEqual(beat_worlds(world=[1, 2, 0, 0, 1, 1], work=WORK), [[1, 2], [0, 0], [1, 1]])

    def test_worlds_of_works_that_would_be_none_over_beats(self):
        wide = Work([(name, 2) for name in "abcdefgh"])
        self.assertEqual(beat_worlds(wide, [0, 1] * 12), [[0, 1] * 4] * 3)
        self.assertEqual(beat_worlds(Work([("abcdef", 4)]), [3, 0]), [[3], [0]])


def some_over_beats(many, seed):
    """Small works with delays and beats, as (wires, parts, delays, beats), that are works over these beats."""
    chance = random.Random(seed)
    found = []
    for _ in range(many):
        beats = chance.randint(1, 3)
        names = chance.sample(["a", "b", "c", "ab", "pq", "q"], chance.randint(1, {1: 4, 2: 3, 3: 2}[beats]))
        wires = [(name, chance.choice([2, 2, 3])) for name in names]
        called = chance.sample(["p", "q", "r", "s"], chance.randint(1, 4))
        parts = [(name, [some_tie(chance, wires) for _ in range(chance.randint(1, 2))]) for name in called]
        delays = []
        for _ in range(chance.randint(0, 3)):
            out, size = chance.choice(wires)
            delays.append((chance.randrange(len(parts)), out, chance.choice(names), chance.choice([None, chance.randrange(size)])))
        found.append((wires, parts, delays, beats))
    return found


def sound_over_slowly(wires, parts, delays, worlds):
    """The parts that are sound in each of the worlds and whose delays hold from each to the next."""
    names = [name for name, _ in wires]
    sound = set(range(len(parts)))
    for world in worlds:
        sound &= set(sound_slowly(wires, parts, world))
    for part, out, told, first in delays:
        kept = first is None or worlds[0][names.index(out)] == first
        kept = kept and all(now[names.index(out)] == ahead[names.index(told)] for ahead, now in zip(worlds, worlds[1:]))
        if not kept:
            sound.discard(part)
    return sound


class AllBeatsTogether(unittest.TestCase):
    def test_worlds_and_sound_parts(self):
        for wires, parts, delays, beats in some_over_beats(60, 121):
            work = Work(wires, parts)
            over = over_beats(work, delays, beats=beats)
            told = all_worlds(over, (), [])
            apart = [beat_worlds(work, world) for world in told]
            self.assertEqual(apart, [list(some) for some in itertools.product(worlds_slowly(wires), repeat=beats)])
            for world, worlds in zip(told, apart):
                self.assertEqual(set(sound_in(over, world)), sound_over_slowly(wires, parts, delays, worlds))

    def test_blamed_as_all_beats_together(self):
        chance = random.Random(122)
        for wires, parts, delays, beats in some_over_beats(60, 122):
            work = Work(wires, parts)
            over = over_beats(work, delays, beats=beats)
            seen = [some_looks(chance, wires, 3) for _ in range(beats)]
            looks = [look for beat, some in enumerate(seen) for look in beat_looks(work, some, beat=beat)]
            fitting = [(worlds, sound_over_slowly(wires, parts, delays, worlds))
                       for worlds in itertools.product(worlds_slowly(wires), repeat=beats)
                       if all(met_slowly(wires, some, world) for some, world in zip(seen, worlds))]
            lots, everything = lots_slowly(len(parts)), set(range(len(parts)))
            self.assertEqual(clashing(over, looks), least_slowly(
                [lot for lot in lots if not any(set(lot) <= sound for _, sound in fitting)]))
            self.assertEqual(broken(over, looks), least_slowly(
                [lot for lot in lots if any(everything - set(lot) <= sound for _, sound in fitting)]))
            at, beat = chance.randrange(len(wires)), chance.randrange(beats)
            value = chance.randrange(wires[at][1])
            follow = least_slowly([lot for lot in lots if all(
                worlds[beat][at] == value for worlds, sound in fitting if set(lot) <= sound)])
            self.assertEqual(lots_of(over, looks, (wires[at][0] + "abc"[beat], value)), [
                lot for lot in follow if any(set(lot) <= sound for _, sound in fitting)])

    def test_a_delay_that_shows_a_beat_later(self):
        # What is counted up at each beat, by two parts.
        work = Work([("n", 3), ("m", 3)], [("add", [("rows", ("n", "m"), ((0, 1), (1, 2), (2, 0)))]), ("keep", [("same", "n", "n")])])
        over = over_beats(work, [(1, "n", "m", 0)], beats=3)
        self.assertEqual(all_worlds(over, (0, 1), []), [[0, 1, 1, 2, 2, 0]])
        self.assertEqual(broken(over, beat_looks(work, [("is", "n", 2)], beat=2)), [()])
        self.assertEqual(broken(over, beat_looks(work, [("is", "n", 1)], beat=2)), [(0,), (1,)])
        self.assertEqual(broken(over, beat_looks(work, [("is", "n", 2)], beat=0)), [(1,)])


SIX = Work([("a", 2), ("abcdef", 2)], [("p", [("same", "a", "abcdef")])])


class Refused(Refusing, unittest.TestCase):
    def test_no_work(self):
        fields = {"part": "work", "number": None, "tie": None}
        for thing in odd_things() + [WORK.wires(), Work, (WORK,)]:
            self.refused_so(NoWork, fields, over_beats, thing, None, beats=None)
            self.refused_so(NoWork, fields, beat_looks, thing, None, beat=None)
            self.refused_so(NoWork, fields, beat_worlds, thing, None)

    def test_no_delays(self):
        wrong = [None, (), (0, "x", "y"), (0, "x", "y", 0, 0), [0, "x", "y", 0], (2, "x", "y", 0), (-1, "x", "y", 0),
                 (True, "x", "y", 0), ("turn", "x", "y", 0), (0, "z", "y", 0), (0, "x", "z", 0), (0, "turn", "y", 0),
                 (0, "xa", "y", 0), (0, 0, "y", 0), (0, "x", 1, 0), (0, "x", "y", 2), (0, "x", "y", -1), (0, "x", "y", True),
                 (0, "x", "y", "0"), (0, "x", "y", 0.0), (0, "x", "y", [0]), (0, "y", "x", 3)]
        for thing in odd_things() + wrong:
            for beats in (2, None):
                if thing.__class__ is not list:
                    self.refused_so(NoBeats, {"which": "delays"}, over_beats, WORK, thing, beats=beats)
                self.refused_so(NoBeats, {"which": "delays"}, over_beats, WORK, [thing], beats=beats)
                self.refused_so(NoBeats, {"which": "delays"}, over_beats, WORK, DELAYS + [thing], beats=beats)
        for thing in odd_things():
            for at, delay in enumerate([(thing, "x", "y", 0), (0, thing, "y", 0), (0, "x", thing, 0), (0, "x", "y", thing)]):
                if at < 3 or thing is not None:
                    self.refused_so(NoBeats, {"which": "delays"}, over_beats, WORK, [delay])
        self.assertEqual(over_beats(WORK, [(0, "y", "x", 2)]).parts()[0][1][2:], [("fixed", "ya", 2), ("same", "yb", "xa")])
        self.refused_so(NoBeats, {"which": "delays"}, over_beats, Work([("a", 2)]), [(0, "a", "a", 0)])

    def test_no_beats(self):
        for thing in odd_things() + [0, 4, -1, "2", [2], (2,), 2.0, True]:
            # Ahead of names, and of what would be no work.
            for work in (WORK, SIX, Work([(name, 2) for name in "abcdefgh"])):
                self.refused_so(NoBeats, {"which": "beats"}, over_beats, work, [], beats=thing)

    def test_a_name_of_six_letters(self):
        for beats in (1, 2, 3):
            self.refused_so(NoBeats, {"which": "names"}, over_beats, SIX, [], beats=beats)
        wide = Work([(name, 2) for name in "abcdefg"] + [("abcdef", 2)])
        self.refused_so(NoBeats, {"which": "names"}, over_beats, wide, [])
        self.refused_so(NoBeats, {"which": "delays"}, over_beats, SIX, None)

    def test_what_would_be_no_work(self):
        wires = {"part": "wires", "number": None, "tie": None}
        self.refused_so(NoWork, wires, over_beats, Work([(name, 2) for name in "abcde"]), [])
        self.refused_so(NoWork, wires, over_beats, Work([(name, 2) for name in "abc"]), [], beats=3)
        self.refused_so(NoWork, wires, over_beats, Work([("a", 4), ("b", 4), ("c", 3)]), [])
        self.refused_so(NoWork, wires, over_beats, Work([("a", 4), ("b", 4)]), [], beats=3)
        ties = [("p", [("same", "a", "a")]), ("q", [("same", "a", "a")] * 12)]
        many = {"part": "parts", "number": 1, "tie": None}
        self.refused_so(NoWork, many, over_beats, Work([("a", 2)], ties), [(1, "a", "a", None)])
        self.refused_so(NoWork, many, over_beats, Work([("a", 2)], ties), [], beats=3)
        self.assertEqual(len(over_beats(Work([("a", 2)], ties), [(1, "a", "a", None)], beats=1).parts()[1][1]), 12)

    def test_looks(self):
        for thing in odd_things() + [(), "x"]:
            for beat in (0, None):
                if thing.__class__ is not list:
                    self.refused_so(NoLook, {"number": None}, beat_looks, WORK, thing, beat=beat)
                self.refused_so(NoLook, {"number": 1}, beat_looks, WORK, [("is", "x", 1), thing], beat=beat)
        for look in [("is", "xa", 0), ("is", "x", 2), ("was", "x", 0), ("is", "turn", 0)]:
            self.refused_so(NoLook, {"number": 0}, beat_looks, WORK, [look], beat=0)
        self.refused_so(NoLook, {"number": 0}, beat_looks, SIX, [None], beat=None)

    def test_beats_of_looks(self):
        for thing in odd_things() + [3, -1, "0", [0], (0,), 0.0, True, False]:
            for work in (WORK, SIX):
                self.refused_so(NoBeats, {"which": "beats"}, beat_looks, work, [], beat=thing)
        for beat in range(3):
            self.refused_so(NoBeats, {"which": "names"}, beat_looks, SIX, [("is", "a", 1)], beat=beat)

    def test_worlds(self):
        wrong = [[], [0], [0, 0, 0], [0] * 5, [0] * 7, [0] * 8, (0, 0), [2, 0], [0, 3], [0, 0, 2, 0], [0, 0, 0, 0, 0, 3], [0, -1],
                 [0, True], [0, 0.0], [0, "0"], [[0, 0]], [[0, 0], [0, 0]], {0: 0, 1: 0}, "00", b"\x00\x00", range(2)]
        for thing in odd_things() + wrong:
            self.refused_so(NoWorld, {}, beat_worlds, WORK, thing)
        for thing in odd_things():
            self.refused_so(NoWorld, {}, beat_worlds, WORK, [thing, 0])
            self.refused_so(NoWorld, {}, beat_worlds, WORK, [0, 0, 1, thing])

    def test_what_is_handed_in_stays_as_it_was(self):
        delays, looks, world = list(DELAYS), [("is", "x", 1)], [0, 1, 1, 2]
        before = copy.deepcopy((delays, looks, world))
        told = over_beats(WORK, delays)
        led, worlds = beat_looks(WORK, looks, beat=1), beat_worlds(WORK, world)
        self.assertRaises(NoBeats, over_beats, WORK, delays, beats=4)
        self.assertRaises(NoWorld, beat_worlds, WORK, world + [0])
        self.assertEqual((delays, looks, world), before)
        worlds[0][0] = 1
        led.clear()
        self.assertEqual((delays, looks, world), before)
        self.assertEqual(worlds[1], [1, 2])
        delays.clear()
        self.assertEqual(told, over_beats(WORK, DELAYS))


if __name__ == "__main__":
    unittest.main()
