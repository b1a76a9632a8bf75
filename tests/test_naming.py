"""[12.3]: works called otherwise, lots and looks led along."""

import copy
import random
import unittest

from leastblame.errors import NoLook, NoLot, NoNames, NoWork
from leastblame.naming import called, led_looks, led_lot
from leastblame.works import Work
from leastblame.worlds import all_worlds, sound_in

from helpers import TIES, WIRES, Refusing, odd_things, some_cases

WORK = Work([("a", 2), ("b", 3), ("c", 2)], [
    ("p", [("fixed", "a", 1), ("rows", ("b", "a"), ((0, 1), (2, 0)))]), ("q", [("pick", "c", "a", "b", "a")]),
    ("r", [("turned", "c", "a")])])
LOOKS = [("is", "a", 1), ("isnt", "b", 2), ("is", "a", 1)]


def some_naming(chance, work):
    """Names for wires and parts, and an order; each may be None."""
    names = chance.sample(["a", "b", "c", "d", "e", "f", "g", "h", "out", "in", "xyzxyz", "p", "q", "w"], 14)
    wires = chance.choice([None, names[:len(work.wires())], chance.sample([name for name, _ in work.wires()], len(work.wires()))])
    parts = chance.choice([None, names[-len(work):] if len(work) else []])
    order = chance.choice([None, chance.sample(range(len(work)), len(work))])
    return wires, parts, order


class Called(unittest.TestCase):
    def test_wires(self):
        self.assertEqual(called(WORK, wires=["x", "y", "p"]), Work([("x", 2), ("y", 3), ("p", 2)], [
            ("p", [("fixed", "x", 1), ("rows", ("y", "x"), ((0, 1), (2, 0)))]), ("q", [("pick", "p", "x", "y", "x")]),
            ("r", [("turned", "p", "x")])]))

    def test_names_exchanged(self):
        self.assertEqual(called(WORK, wires=["b", "a", "c"]), Work([("b", 2), ("a", 3), ("c", 2)], [
            ("p", [("fixed", "b", 1), ("rows", ("a", "b"), ((0, 1), (2, 0)))]), ("q", [("pick", "c", "b", "a", "b")]),
            ("r", [("turned", "c", "b")])]))
        self.assertEqual(called(called(WORK, wires=["b", "a", "c"]), wires=["a", "b", "c"]), WORK)
        self.assertEqual(called(WORK, parts=["q", "p", "r"]).parts(), [
            (name, ties) for name, (_, ties) in zip("qpr", WORK.parts())])

    def test_an_order(self):
        p, q, r = WORK.parts()
        # Part p stands at order[p].
        self.assertEqual(called(WORK, order=[1, 2, 0]), Work(WORK.wires(), [r, p, q]))
        self.assertEqual(called(WORK, order=[2, 0, 1]), Work(WORK.wires(), [q, r, p]))
        self.assertEqual(called(WORK, order=[0, 1, 2]), WORK)

    def test_an_order_and_names(self):
        p, q, r = WORK.parts()
        self.assertEqual(called(WORK, order=[1, 2, 0], parts=["x", "y", "z"]), Work(WORK.wires(), [
            ("z", r[1]), ("x", p[1]), ("y", q[1])]))
        self.assertEqual(called(WORK, order=[1, 0, 2], parts=["q", "p", "a"], wires=["c", "b", "a"]), Work(
            [("c", 2), ("b", 3), ("a", 2)], [
                ("p", [("pick", "a", "c", "b", "c")]), ("q", [("fixed", "c", 1), ("rows", ("b", "c"), ((0, 1), (2, 0)))]),
                ("a", [("turned", "a", "c")])]))

    def test_none_leaves_all_as_it_is(self):
        self.assertEqual(called(WORK), WORK)
        self.assertEqual(called(work=WORK, wires=None, parts=None, order=None), WORK)
        self.assertRaises(TypeError, called, WORK, None)
        self.assertEqual(called(Work(WIRES), parts=[], order=[]), Work(WIRES))

    def test_ties_of_every_sort(self):
        work = Work(WIRES, [("p", TIES)])
        self.assertEqual(called(work, wires=["d", "c", "b", "a"]).parts(), [("p", [
            ("fixed", "d", 1), ("same", "c", "b"), ("turned", "b", "c"), ("least", "b", "c", "d"), ("most", "b", "c", "d"),
            ("sum", "c", "b", "d"), ("pick", "b", "a", "d", "c"), ("rows", ("c", "d"), ((0, 1), (2, 0)))])])

    def test_lots_and_looks(self):
        self.assertEqual(led_lot(WORK, (0, 2), order=[1, 2, 0]), (0, 1))
        self.assertEqual(led_lot(WORK, (0, 1), order=[2, 1, 0]), (1, 2))
        self.assertEqual(led_lot(order=[2, 1, 0], lot=(0,), work=WORK), (2,))
        self.assertEqual(led_lot(WORK, (), order=[2, 1, 0]), ())
        self.assertEqual(led_lot(WORK, (0, 2)), (0, 2))
        self.assertEqual(led_lot(WORK, (0, 2), order=None), (0, 2))
        self.assertEqual(led_looks(WORK, LOOKS, wires=["b", "x", "a"]), [("is", "b", 1), ("isnt", "x", 2), ("is", "b", 1)])
        self.assertEqual(led_looks(wires=["b", "a", "c"], looks=LOOKS[:1], work=WORK), [("is", "b", 1)])
        self.assertEqual(led_looks(WORK, LOOKS), LOOKS)
        self.assertEqual(led_looks(WORK, [], wires=None), [])
        self.assertRaises(TypeError, led_lot, WORK, (), None)
        self.assertRaises(TypeError, led_looks, WORK, [], None)

    def test_worlds_stay_and_sound_lots_are_led_along(self):
        chance = random.Random(131)
        for wires, parts, looks in some_cases(80, 131):
            work = Work(wires, parts)
            names, parts_called, order = some_naming(chance, work)
            other = called(work, wires=names, parts=parts_called, order=order)
            for world in all_worlds(work, (), looks)[:40]:
                self.assertEqual(sound_in(other, world), led_lot(work, sound_in(work, world), order=order))
            led = led_looks(work, looks, wires=names)
            self.assertEqual(all_worlds(other, (), led), all_worlds(work, (), looks))
            for p, (name, ties) in enumerate(parts):
                self.assertEqual(other.parts()[order[p] if order else p][0], parts_called[p] if parts_called else name)


WRONG_WIRES = [[], ["x", "y", "z", "z"],
               ["x", "y"], ["x", "y", "z", "w"], ["x", "y", "x"], ("x", "y", "z"), ["x", "y", "Z"], ["x", "y", ""],
               ["x", "y", "sevenle"], ["x", "y", None], ["x", "y", 0], ["x", "y", ["z"]], "xyz", {"x": 0, "y": 1, "z": 2},
               ["x", "y", "z z"], ["x", "y", b"z"]]
WRONG_ORDERS = [[], [0, 1], [0, 1, 2, 3], [0, 1, 1], [0, 1, 3], [1, 2, 3], [0, 1, -1], [0, True, 2], [0, 1.0, 2], (0, 1, 2),
                [0, 1, "2"], [0, 1, None], [0, 1, [2]], "012", {0: 0, 1: 1, 2: 2}, range(3), [0, 0, 1, 2]]


class Refused(Refusing, unittest.TestCase):
    def test_no_work(self):
        fields = {"part": "work", "number": None, "tie": None}
        for thing in odd_things() + [WORK.wires(), Work, (WORK,)]:
            self.refused_so(NoWork, fields, called, thing, wires=0, parts=0, order=0)
            self.refused_so(NoWork, fields, led_lot, thing, None, order=0)
            self.refused_so(NoWork, fields, led_looks, thing, None, wires=0)

    def test_no_names(self):
        for thing in odd_things() + WRONG_WIRES:
            if thing is None:
                continue
            self.refused_so(NoNames, {"which": "wires"}, called, WORK, wires=thing, parts=thing, order=0)
            self.refused_so(NoNames, {"which": "wires"}, called, WORK, wires=thing)
            self.refused_so(NoNames, {"which": "parts"}, called, WORK, parts=thing, order=0)
            self.refused_so(NoNames, {"which": "parts"}, called, WORK, parts=thing, wires=["x", "y", "z"], order=[0, 1, 2])
            self.refused_so(NoNames, {"which": "wires"}, led_looks, WORK, LOOKS, wires=thing)
            self.refused_so(NoNames, {"which": "wires"}, led_looks, WORK, [], wires=thing)
        for thing in odd_things():
            self.refused_so(NoNames, {"which": "wires"}, called, WORK, wires=["x", thing, "y"])
            self.refused_so(NoNames, {"which": "parts"}, called, WORK, parts=["x", thing, "y"])

    def test_no_order(self):
        for thing in odd_things() + WRONG_ORDERS:
            if thing is None:
                continue
            self.refused_so(NoNames, {"which": "order"}, called, WORK, order=thing)
            self.refused_so(NoNames, {"which": "order"}, called, WORK, wires=["x", "y", "z"], parts=["x", "y", "z"], order=thing)
            self.refused_so(NoNames, {"which": "order"}, led_lot, WORK, (0, 1), order=thing)
            self.refused_so(NoNames, {"which": "order"}, led_lot, WORK, (), order=thing)
        for thing in odd_things():
            self.refused_so(NoNames, {"which": "order"}, called, WORK, order=[0, thing, 1])
        self.refused_so(NoNames, {"which": "order"}, called, Work(WIRES), order=[0])
        self.refused_so(NoNames, {"which": "parts"}, called, Work(WIRES), parts=["p"])

    def test_lots_and_looks_ahead_of_names(self):
        for thing in odd_things():
            for order in ([2, 1, 0], None, 0):
                if thing.__class__ is not tuple:
                    self.refused_so(NoLot, {"number": None}, led_lot, WORK, thing, order=order)
                self.refused_so(NoLot, {"number": 1}, led_lot, WORK, (0, thing), order=order)
            for wires in (["x", "y", "z"], None, 0):
                if thing.__class__ is not list:
                    self.refused_so(NoLook, {"number": None}, led_looks, WORK, thing, wires=wires)
                self.refused_so(NoLook, {"number": 2}, led_looks, WORK, LOOKS[:2] + [thing, None], wires=wires)
        self.refused_so(NoLot, {"number": 1}, led_lot, WORK, (1, 0), order=0)
        self.refused_so(NoLook, {"number": 0}, led_looks, WORK, [("is", "x", 0)], wires=["x", "y", "z"])

    def test_what_is_handed_in_stays_as_it_was(self):
        handed = [["b", "a", "c"], ["x", "y", "z"], [1, 2, 0], list(LOOKS)]
        before = copy.deepcopy(handed)
        told = called(WORK, wires=handed[0], parts=handed[1], order=handed[2])
        led = led_looks(WORK, handed[3], wires=handed[0])
        led_lot(WORK, (0, 1), order=handed[2])
        self.assertRaises(NoNames, called, WORK, wires=handed[0], parts=handed[1], order=handed[0])
        self.assertEqual(handed, before)
        led.clear()
        self.assertEqual(led_looks(WORK, handed[3]), LOOKS)
        for thing in handed:
            thing.clear()
        self.assertEqual(told, called(WORK, wires=before[0], parts=before[1], order=before[2]))
        same = led_looks(WORK, before[3])
        same.clear()
        self.assertEqual(before[3], LOOKS)


if __name__ == "__main__":
    unittest.main()
