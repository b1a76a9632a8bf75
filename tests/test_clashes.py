"""[5.1]: lots that clash, and the least lots that meet lots."""

import random
import unittest

from leastblame.clashes import clashing, meeting
from leastblame.errors import NoLook, NoLot, NoWork
from leastblame.works import Work

from helpers import WIRES, fields_of, odd_things, some_cases
from papers import GATES, PARTS, clashing_slowly, lots_slowly, meeting_slowly

WORK = Work(GATES, PARTS)
SEVEN = Work([("a", 2)], [(name, [("same", "a", "a")]) for name in "pqrstuv"])


class Clashing(unittest.TestCase):
    def test_by_hand(self):
        self.assertEqual(clashing(WORK, []), [])
        self.assertEqual(clashing(WORK, [("is", "x", 1)]), [(0, 1)])
        self.assertEqual(clashing(WORK, [("is", "a", 1), ("is", "b", 1)]), [(0,)])
        self.assertEqual(clashing(WORK, [("is", "a", 1), ("is", "b", 1), ("is", "x", 0)]), [(0,), (1,)])
        self.assertEqual(clashing(looks=[("is", "x", 1), ("is", "a", 0)], work=WORK), [(1,)])

    def test_looks_that_cannot_be_met(self):
        for work in (WORK, SEVEN, Work([("a", 2)])):
            self.assertEqual(clashing(work, [("is", "a", 0), ("is", "a", 1)]), [()])
            self.assertEqual(clashing(work, [("isnt", "a", 0), ("isnt", "a", 1)]), [()])

    def test_no_parts(self):
        self.assertEqual(clashing(Work(WIRES), []), [])
        self.assertEqual(clashing(Work(WIRES), [("is", "b", 2)]), [])

    def test_a_part_that_is_never_sound(self):
        work = Work([("a", 2)], [("p", [("fixed", "a", 0)]), ("q", [("rows", ("a",), ())]), ("r", [("fixed", "a", 1)])])
        self.assertEqual(clashing(work, []), [(1,), (0, 2)])
        self.assertEqual(clashing(work, [("is", "a", 0)]), [(1,), (2,)])

    def test_sorted_by_how_many_parts_first(self):
        fixed = [[("fixed", "a", 0)], [("fixed", "a", 1)], [("fixed", "b", 0)], [("rows", ("c",), ())], [("fixed", "b", 1)]]
        work = Work([("a", 2), ("b", 2), ("c", 2)], list(zip("pqrst", fixed)))
        self.assertEqual(clashing(work, []), [(3,), (0, 1), (2, 4)])
        three = [("most", "a", "b", "c")], [("fixed", "b", 0)], [("fixed", "c", 0)], [("fixed", "a", 1)], [("fixed", "b", 1)]
        work = Work([("a", 2), ("b", 2), ("c", 2)], list(zip("pqrst", three)))
        self.assertEqual(clashing(work, []), [(1, 4), (0, 1, 2, 3)])

    def test_eight_wires_and_seven_parts(self):
        wires = list(zip("abcdefgh", [2] * 8))
        parts = [("p" + out, [("same", out, into)]) for into, out in zip("abcdefg", "bcdefgh")]
        work = Work(wires, parts)
        everything = (0, 1, 2, 3, 4, 5, 6)
        self.assertEqual(clashing(work, [("is", "a", 0), ("is", "h", 1)]), [everything])
        self.assertEqual(clashing(work, [("is", "a", 0), ("is", "d", 1), ("is", "h", 0)]), [(0, 1, 2), (3, 4, 5, 6)])
        self.assertEqual(clashing(work, []), [])
        parts = [("p" + name, [("fixed", "a", int(name in "bdf")), ("same", name, name)]) for name in "bcdefgh"]
        self.assertEqual(clashing(Work(wires, parts), []), clashing_slowly(wires, parts, []))

    def test_many_least_lots(self):
        # In each world just three of the seven parts are sound: so all lots of four clash.
        wires = [("a", 4), ("b", 4), ("c", 4)]
        trios = [lot for lot in lots_slowly(7) if len(lot) == 3]
        worlds = [(one, two, three) for one in range(4) for two in range(4) for three in range(4)]
        led = [(world, trios[number % 35]) for number, world in enumerate(worlds)]
        parts = [(name, [("rows", ("a", "b", "c"), tuple(world for world, trio in led if number in trio))])
                 for number, name in enumerate("pqrstuv")]
        self.assertEqual(clashing(Work(wires, parts), []), [lot for lot in lots_slowly(7) if len(lot) == 4])

    def test_many_works(self):
        for wires, parts, looks in some_cases(200, seed=21):
            told = clashing(Work(wires, parts), looks)
            self.assertEqual(told, clashing_slowly(wires, parts, looks), (wires, parts, looks))
            self.assertTrue(told.__class__ is list and all(lot.__class__ is tuple for lot in told))

    def test_looks_in_another_order_or_told_twice(self):
        for wires, parts, looks in some_cases(20, seed=22):
            work = Work(wires, parts)
            self.assertEqual(clashing(work, looks[::-1] + looks), clashing(work, looks))


class Meeting(unittest.TestCase):
    def test_by_hand(self):
        self.assertEqual(meeting(SEVEN, [(0, 1)]), [(0,), (1,)])
        self.assertEqual(meeting(SEVEN, [(0, 1), (1, 2)]), [(1,), (0, 2)])
        self.assertEqual(meeting(SEVEN, [(3,), (5,)]), [(3, 5)])
        self.assertEqual(meeting(SEVEN, [(0, 1), (0, 2), (1, 2)]), [(0, 1), (0, 2), (1, 2)])
        self.assertEqual(meeting(lots=[(1, 2), (6,), (0, 3)], work=SEVEN), [(0, 1, 6), (0, 2, 6), (1, 3, 6), (2, 3, 6)])
        self.assertEqual(meeting(SEVEN, [(0, 1, 2, 3, 4, 5, 6)]), [(part,) for part in range(7)])
        self.assertEqual(meeting(SEVEN, [(part,) for part in range(7)]), [(0, 1, 2, 3, 4, 5, 6)])

    def test_no_lots_at_all(self):
        for work in (SEVEN, WORK, Work([("a", 2)])):
            self.assertEqual(meeting(work, []), [()])

    def test_the_empty_lot_among_them(self):
        for lots in ([()], [(), (0,)], [(0, 1), ()], [(), ()]):
            self.assertEqual(meeting(SEVEN, lots), [])
        self.assertEqual(meeting(Work([("a", 2)]), [()]), [])

    def test_lots_within_lots_and_alike_lots(self):
        self.assertEqual(meeting(SEVEN, [(0, 1), (0,)]), [(0,)])
        self.assertEqual(meeting(SEVEN, [(0,), (0, 1), (0, 1, 2)]), [(0,)])
        self.assertEqual(meeting(SEVEN, [(2, 4), (2, 4), (2, 4)]), [(2,), (4,)])
        self.assertEqual(meeting(SEVEN, [(1, 5, 6), (5, 6), (1,), (5, 6)]), [(1, 5), (1, 6)])

    def test_in_any_order(self):
        self.assertEqual(meeting(SEVEN, [(5, 6), (0, 1, 2), (3,)]), meeting(SEVEN, [(3,), (0, 1, 2), (5, 6)]))

    def test_many_lots(self):
        chance = random.Random(23)
        for number in range(150):
            many = chance.randint(0, 7)
            work = Work([("a", 2)], SEVEN.parts()[:many])
            lots = [chance.choice(lots_slowly(many)[-100:]) for _ in range(chance.randint(0, 6))]
            self.assertEqual(meeting(work, lots), meeting_slowly(many, lots), lots)
        everything = lots_slowly(7)[1:] * 3
        self.assertEqual(meeting(SEVEN, everything), [(0, 1, 2, 3, 4, 5, 6)])


class Refused(unittest.TestCase):
    def refused(self, error, number, call, *told):
        with self.assertRaises(error) as caught:
            call(*told)
        self.assertIs(caught.exception.__class__, error)
        self.assertEqual(fields_of(caught.exception), {"number": number}, told)

    def test_no_work(self):
        for thing in odd_things() + [GATES, Work, repr(WORK), (WORK,)]:
            for call in (clashing, meeting):
                with self.assertRaises(NoWork) as caught:
                    call(thing, None)
                self.assertEqual(fields_of(caught.exception), {"part": "work", "number": None, "tie": None})

    def test_no_looks(self):
        for thing in odd_things() + [(), ("is", "a", 0), (("is", "a", 0),)]:
            if not isinstance(thing, list):
                self.refused(NoLook, None, clashing, WORK, thing)
        look = ("is", "a", 0)
        for thing in odd_things() + [list(look), ("is", "a", 2), ("is", "inv", 0), ("are", "a", 0), look + (0,)]:
            self.refused(NoLook, 0, clashing, WORK, [thing])
            self.refused(NoLook, 1, clashing, WORK, [look, thing, thing])

    def test_no_list_of_lots(self):
        for thing in odd_things() + [(), (0,), ((0,),), "", 0, {(0,): True}]:
            if not isinstance(thing, list):
                self.refused(NoLot, None, meeting, SEVEN, thing)

    def test_no_lot_in_the_list(self):
        wrong = odd_things() + [0, [], [0], [0, 1], (7,), (0, 7), (-1,), (0, 0), (1, 0), (0, 1, 1), ("p",), (0.0,), (0, None)]
        for thing in wrong:
            self.refused(NoLot, 0, meeting, SEVEN, [thing])
            self.refused(NoLot, 1, meeting, SEVEN, [(0,), thing, None])
            self.refused(NoLot, 2, meeting, SEVEN, [(), (), thing])
        self.refused(NoLot, 0, meeting, Work([("a", 2)]), [(0,)])
        self.refused(NoLot, 1, meeting, WORK, [(0, 1), (1, 2)])


if __name__ == "__main__":
    unittest.main()
