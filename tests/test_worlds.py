"""[3.1] and [3.2]: worlds, lots, looks; worlds that fit them."""

import random
import unittest

from leastblame.errors import NoLook, NoLot, NoWork, NoWorld
from leastblame.works import Work
from leastblame.worlds import all_worlds, count_worlds, first_world, is_world, sound_in

from helpers import TIES, WIRES, fields_of, odd_things, some_works, sound_slowly, worlds_slowly

WORK = Work(WIRES, [("p", TIES[:1]), ("q", TIES[1:2]), ("r", TIES[2:3])])
ASKED = (first_world, all_worlds, count_worlds)


class IsWorld(unittest.TestCase):
    def test_all_worlds_are(self):
        for world in worlds_slowly(WIRES):
            self.assertIs(is_world(WORK, world), True)
        self.assertIs(is_world(thing=[0, 0, 0, 0], work=WORK), True)

    def test_values_out_of_reach(self):
        top = [many - 1 for name, many in WIRES]
        self.assertIs(is_world(WORK, top), True)
        for at in range(len(WIRES)):
            for value in odd_things() + [top[at] + 1, str(top[at]), [top[at]], (top[at],)]:
                self.assertIs(is_world(WORK, top[:at] + [value] + top[at + 1:]), False, (at, value))

    def test_too_short_too_long_no_list(self):
        for thing in odd_things() + [[], (), [0, 0, 0], [0, 0, 0, 0, 0], (0, 0, 0, 0), "0000", b"0000", WORK,
                                     {0: 0, 1: 0, 2: 0, 3: 0}, [[0, 0, 0, 0]], range(4)]:
            self.assertIs(is_world(WORK, thing), False)


class SoundIn(unittest.TestCase):
    def test_each_sort_of_tie(self):
        # Of each sort: the wires, the tie, and just the worlds in which it holds.
        two, mixed = [("x", 2), ("a", 2)], [("x", 3), ("a", 2)]
        three = [("x", 3), ("a", 2), ("b", 2)]
        for wires, tie, held in [
            (two, ("fixed", "x", 1), [[1, 0], [1, 1]]),
            (two, ("fixed", "x", 2), []),
            (mixed, ("fixed", "x", 2), [[2, 0], [2, 1]]),
            (two, ("same", "x", "a"), [[0, 0], [1, 1]]),
            (mixed, ("same", "x", "a"), [[0, 0], [1, 1]]),
            (two, ("same", "x", "x"), [[0, 0], [0, 1], [1, 0], [1, 1]]),
            (mixed, ("turned", "x", "a"), [[0, 1], [1, 0]]),
            (mixed, ("turned", "a", "x"), [[1, 1], [2, 0]]),
            (mixed, ("turned", "x", "x"), [[1, 0], [1, 1]]),
            (three, ("least", "x", "a", "b"), [[0, 0, 0], [0, 0, 1], [0, 1, 0], [1, 1, 1]]),
            (three, ("most", "x", "a", "b"), [[0, 0, 0], [1, 0, 1], [1, 1, 0], [1, 1, 1]]),
            (three, ("sum", "x", "a", "b"), [[0, 0, 0], [1, 0, 1], [1, 1, 0], [2, 1, 1]]),
            (three, ("sum", "a", "b", "b"), [[0, 0, 0], [0, 0, 1], [1, 0, 0], [1, 0, 1], [2, 0, 0], [2, 0, 1]]),
            (three, ("pick", "a", "x", "b", "a"), [
                [0, 0, 0], [0, 1, 1], [1, 0, 0], [1, 0, 1], [1, 1, 0], [1, 1, 1], [2, 0, 0], [2, 0, 1], [2, 1, 0], [2, 1, 1]]),
            (three, ("pick", "x", "a", "a", "b"), [[0, 0, 0], [0, 0, 1], [0, 1, 0], [1, 1, 1]]),
            (mixed, ("rows", ("x",), ((2,),)), [[2, 0], [2, 1]]),
            (mixed, ("rows", ("a", "x"), ((0, 2), (1, 0), (3, 3))), [[0, 1], [2, 0]]),
            (mixed, ("rows", ("x", "a"), ()), []),
        ]:
            work = Work(wires, [("p", [tie])])
            for world in worlds_slowly(wires):
                self.assertEqual(sound_in(work, world), (0,) if world in held else (), (tie, world))

    def test_all_ties_must_hold(self):
        work = Work([("a", 2), ("b", 2)], [("p", [("fixed", "a", 1), ("fixed", "b", 1)])])
        self.assertEqual([sound_in(work, world) for world in worlds_slowly(work.wires())], [(), (), (), (0,)])

    def test_lots_rise(self):
        work = Work([("a", 2)], [("p", [("fixed", "a", 1)]), ("q", [("fixed", "a", 0)]), ("r", [("same", "a", "a")])])
        self.assertEqual(sound_in(work, [0]), (1, 2))
        self.assertEqual(sound_in(work=work, world=[1]), (0, 2))
        self.assertIs(sound_in(work, [0]).__class__, tuple)

    def test_no_parts(self):
        self.assertEqual(sound_in(Work([("a", 2)]), [0]), ())

    def test_many_works(self):
        for wires, parts in some_works(40, seed=6):
            work = Work(wires, parts)
            for world in worlds_slowly(wires)[::7]:
                self.assertEqual(sound_in(work, world), sound_slowly(wires, parts, world))

    def test_no_world(self):
        for thing in odd_things() + [[], (), [0, 0, 0], (0, 0, 0, 0), [0, 0, 0, 2], [2, 0, 0, 0], [0, 0, 0, True]]:
            with self.assertRaises(NoWorld) as caught:
                sound_in(WORK, thing)
            self.assertEqual(fields_of(caught.exception), {})


class Fitting(unittest.TestCase):
    def all_three(self, work, lot, looks, worlds):
        self.assertEqual(all_worlds(work, lot, looks), worlds)
        self.assertEqual(first_world(work, lot, looks), worlds[0] if worlds else None)
        self.assertEqual(count_worlds(work, lot, looks), len(worlds))
        self.assertIs(count_worlds(work, lot, looks).__class__, int)

    def test_nothing_asked_tells_all_worlds(self):
        self.all_three(WORK, (), [], worlds_slowly(WIRES))
        self.all_three(Work([("a", 4)]), (), [], [[0], [1], [2], [3]])

    def test_2048_worlds(self):
        wires = list(zip("abcdef", [4, 4, 4, 4, 4, 2]))
        self.all_three(Work(wires), (), [], worlds_slowly(wires))
        work = Work(wires, [(name, [("sum", "f", "a", "b"), ("fixed", "f", 1)]) for name in "pqrstuv"])
        self.assertEqual(count_worlds(work, (0, 1, 2, 3, 4, 5, 6), []), 512)

    def test_a_small_work(self):
        work = Work([("a", 2), ("b", 2), ("x", 2)], [("inv", [("turned", "b", "a")]), ("both", [("least", "x", "a", "b")])])
        self.all_three(work, (0,), [], [[0, 1, 0], [0, 1, 1], [1, 0, 0], [1, 0, 1]])
        self.all_three(work, (0, 1), [], [[0, 1, 0], [1, 0, 0]])
        self.all_three(work, (1,), [("is", "x", 1)], [[1, 1, 1]])
        self.all_three(work, (0, 1), [("is", "x", 1)], [])
        self.all_three(work, (0,), [("isnt", "x", 0), ("is", "a", 1)], [[1, 0, 1]])

    def test_looks(self):
        work = Work([("a", 4)])
        self.all_three(work, (), [("is", "a", 2)], [[2]])
        self.all_three(work, (), [("isnt", "a", 2)], [[0], [1], [3]])
        self.all_three(work, (), [("isnt", "a", 2), ("isnt", "a", 0)], [[1], [3]])
        self.all_three(work, (), [("isnt", "a", 2)] * 3, [[0], [1], [3]])
        self.all_three(work, (), [("is", "a", 2), ("is", "a", 2)], [[2]])
        self.all_three(work, (), [("is", "a", 2), ("is", "a", 3)], [])
        self.all_three(work, (), [("is", "a", 2), ("isnt", "a", 2)], [])
        self.all_three(work, (), [("is", "a", 0), ("isnt", "a", 3)], [[0]])
        self.all_three(work, (), [("isnt", "a", value) for value in range(4)], [])
        self.all_three(work, (), [("isnt", "a", 1)] * 3000, [[0], [2], [3]])

    def test_a_part_that_is_never_sound(self):
        work = Work([("a", 2)], [("p", [("rows", ("a",), ())]), ("q", [("fixed", "a", 3)])])
        self.all_three(work, (0,), [], [])
        self.all_three(work, (1,), [], [])
        self.all_three(work, (), [], [[0], [1]])

    def test_many_works(self):
        chance = random.Random(7)
        for wires, parts in some_works(150, seed=8):
            work = Work(wires, parts)
            lot = tuple(sorted(chance.sample(range(len(parts)), chance.randint(0, len(parts)))))
            looks = []
            for _ in range(chance.randint(0, 3)):
                name, many = chance.choice(wires)
                looks.append((chance.choice(["is", "isnt", "isnt"]), name, chance.randrange(many)))
            names = [name for name, many in wires]
            worlds = [
                world for world in worlds_slowly(wires)
                if set(lot) <= set(sound_slowly(wires, parts, world))
                and all((world[names.index(wire)] == value) == (word == "is") for word, wire, value in looks)]
            self.all_three(work, lot, looks, worlds)

    def test_handed_in_by_name(self):
        for ask in ASKED:
            self.assertEqual(ask(looks=[("is", "a", 1)], lot=(0,), work=WORK), ask(WORK, (0,), [("is", "a", 1)]))

    def test_kinds(self):
        self.assertIs(first_world(WORK, (), []).__class__, list)
        self.assertIs(all_worlds(WORK, (), []).__class__, list)
        self.assertTrue(all(world.__class__ is list for world in all_worlds(WORK, (), [])))


class Refused(unittest.TestCase):
    def refused(self, error, number, *told):
        for ask in ASKED:
            with self.assertRaises(error) as caught:
                ask(*told)
            self.assertEqual(fields_of(caught.exception), {"number": number}, told)
            self.assertIn(caught.exception.number.__class__, (int, None.__class__))

    def test_no_lot(self):
        for thing in odd_things() + [[], [0], [0, 1], 0, "", "0"]:
            if not isinstance(thing, tuple):
                self.refused(NoLot, None, WORK, thing, [])
        for thing in odd_things() + [3, "0", (0,), [0], 2.0]:
            self.refused(NoLot, 0, WORK, (thing,), [])
            self.refused(NoLot, 1, WORK, (0, thing), [])
            self.refused(NoLot, 2, WORK, (0, 1, thing, thing), [])

    def test_a_lot_rises(self):
        for lot, number in [((0, 0), 1), ((1, 0), 1), ((2, 1), 1), ((0, 2, 1), 2), ((0, 1, 1), 2), ((0, 1, 0), 2),
                            ((0, 1, 2, 2), 3), ((0, 1, 2, 3), 3), ((0, 0, None), 1), ((3,), 0), ((-1, 0), 0)]:
            self.refused(NoLot, number, WORK, lot, [])
        self.assertEqual(count_worlds(WORK, (0, 1, 2), []), len(all_worlds(WORK, (0, 1, 2), [])))

    def test_no_parts_have_the_empty_lot_alone(self):
        self.refused(NoLot, 0, Work([("a", 2)]), (0,), [])
        self.assertEqual(count_worlds(Work([("a", 2)]), (), []), 2)

    def test_seven_parts(self):
        work = Work([("a", 2)], [(name, [("same", "a", "a")]) for name in "pqrstuv"])
        self.assertEqual(count_worlds(work, (0, 1, 2, 3, 4, 5, 6), []), 2)
        self.refused(NoLot, 0, work, (7,), [])
        self.refused(NoLot, 1, work, (6, 7), [])

    def test_no_looks(self):
        for thing in odd_things() + [(), (("is", "a", 0),), ("is", "a", 0), "is", {}]:
            if not isinstance(thing, list):
                self.refused(NoLook, None, WORK, (), thing)
        look = ("is", "a", 0)
        for thing in odd_things() + [(), [], list(look), look[:2], look + (0,), look[::-1], (look,), "isa", "is"]:
            self.refused(NoLook, 0, WORK, (), [thing])
            self.refused(NoLook, 1, WORK, (), [look, thing])
            self.refused(NoLook, 2, WORK, (0,), [look, look, thing, None])

    def test_each_place_of_a_look(self):
        look = ("isnt", "b", 1)
        for word in odd_things() + ["Is", "is ", "not", "isn", "s", "a", ["is"], ("is",), "", "is not"]:
            self.refused(NoLook, 1, WORK, (), [look, (word, "b", 1)])
        for wire in odd_things() + ["z", "p", "ab", ["b"], ("b",), 1, "", "B"]:
            self.refused(NoLook, 1, WORK, (), [look, ("is", wire, 1)])
        for value in odd_things() + [3, "1", [1], (1,), 1.0, "b"]:
            self.refused(NoLook, 1, WORK, (), [look, ("is", "b", value)])
            self.refused(NoLook, 1, WORK, (), [look, ("isnt", "b", value)])

    def test_values_of_the_wire_itself(self):
        for name, many in WIRES:
            self.assertEqual(first_world(WORK, (), [("is", name, many - 1)])[WORK.wire_number(name)], many - 1)
            self.refused(NoLook, 0, WORK, (), [("is", name, many)])
            self.refused(NoLook, 0, WORK, (), [("isnt", name, many)])
            self.refused(NoLook, 0, WORK, (), [("is", name, -1)])

    def test_the_lot_goes_ahead_of_looks(self):
        self.refused(NoLot, 1, WORK, (0, 0), None)
        self.refused(NoLot, None, WORK, [], [None])

    def test_looks_are_looked_at_though_nothing_fits(self):
        work = Work([("a", 2)], [("p", [("rows", ("a",), ())])])
        self.refused(NoLook, 1, work, (0,), [("is", "a", 0), None])

    def test_what_is_no_work_goes_ahead_of_all(self):
        calls = [lambda thing: is_world(thing, None), lambda thing: sound_in(thing, None)]
        calls += [lambda thing, ask=ask: ask(thing, None, None) for ask in ASKED]
        for thing in odd_things() + [WIRES, Work, (WORK,), [WORK], repr(WORK)]:
            for call in calls:
                with self.assertRaises(NoWork) as caught:
                    call(thing)
                self.assertEqual(fields_of(caught.exception), {"part": "work", "number": None, "tie": None})


if __name__ == "__main__":
    unittest.main()
