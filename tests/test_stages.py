"""[10.1] and [10.2]: stages, closed and opened."""

import copy
import itertools
import random
import unittest

from leastblame.blames import broken
from leastblame.cases import follows
from leastblame.errors import NoLot, NoStages, NoWires, NoWork
from leastblame.stages import closed, lot_closed, lot_opened
from leastblame.works import Work
from leastblame.worlds import count_worlds

from helpers import Refusing, holds, odd_things, some_circuit, some_looks, some_work
from papers import least_slowly, lots_slowly

# Three parts in a row, and one beside them.
WIRES = [("a", 2), ("b", 2), ("c", 2), ("d", 2), ("e", 3)]
PARTS = [("p", [("turned", "b", "a")]), ("q", [("turned", "c", "b")]), ("r", [("turned", "d", "c")]), ("s", [("fixed", "e", 2)])]
WORK = Work(WIRES, PARTS)
TURNED = ((0, 1), (1, 0))
ALIKE = ((0, 0), (1, 1))


def named_slowly(part):
    """The wires that the part's ties name."""
    names = set()
    for tie in part[1]:
        names |= set(tie[1]) if tie[0] == "rows" else {name for name in tie[1:] if name.__class__ is str}
    return names


def closed_slowly(wires, parts, stages, seen):
    """Wires and parts of the closed work, or None where a stage's wires are all inner."""
    inner = {}
    for name, lot in stages:
        own = set().union(*(named_slowly(parts[p]) for p in lot))
        others = set().union(*(named_slowly(part) for p, part in enumerate(parts) if p not in lot))
        inner[name] = own - others - set(seen)
        if inner[name] == own:
            return None
    left = [wire for wire in wires if not any(wire[0] in names for names in inner.values())]
    found = {p: part for p, part in enumerate(parts)}
    for name, lot in stages:
        own = set().union(*(named_slowly(parts[p]) for p in lot))
        kept = tuple(wire for wire, many in wires if wire in own - inner[name])
        rows = set()
        mine = [wire for wire in wires if wire[0] in own]
        for values in itertools.product(*(range(many) for _, many in mine)):
            world = {wire[0]: value for wire, value in zip(mine, values)}
            if all(holds(tie, world, dict(wires)) for p in lot for tie in parts[p][1]):
                rows.add(tuple(world[wire] for wire in kept))
        for p in lot[1:]:
            del found[p]
        found[lot[0]] = (name, [("rows", kept, tuple(sorted(rows)))])
    return left, [found[p] for p in sorted(found)]


def rows_slowly(parts, stages):
    """For each part of the closed work the lot of the parts in it."""
    lots = [lot for _, lot in stages]
    return sorted(lots + [(p,) for p in range(len(parts)) if not any(p in lot for lot in lots)])


def some_stages(chance, parts):
    """Right stages of the parts."""
    numbers = chance.sample(range(len(parts)), chance.randint(0, len(parts)))
    names = ["one", "two", "three", "p", "q", "xyz"]
    stages, taken = [], set()
    while numbers:
        size = chance.randint(1, len(numbers))
        lot, numbers = tuple(sorted(numbers[:size])), numbers[size:]
        stages.append([None, lot])
    staged = {p for _, lot in stages for p in lot}
    barred = {name for p, (name, _) in enumerate(parts) if p not in staged}
    for stage in stages:
        stage[0] = chance.choice([name for name in names if name not in barred | taken] + [
            parts[p][0] for p in stage[1] if parts[p][0] not in taken])
        taken.add(stage[0])
    return [tuple(stage) for stage in stages]


def some_closings(many, seed):
    """Works with stages and seen wires, as (wires, parts, stages, seen)."""
    chance = random.Random(seed)
    found = []
    for number in range(many):
        wires, parts = some_work(chance) if number % 3 == 0 else some_circuit(chance)
        names = [name for name, _ in wires]
        found.append((wires, parts, some_stages(chance, parts), chance.sample(names, chance.choice([0, 0, 1, 2]) % len(names))))
    return found


class Closed(unittest.TestCase):
    def test_by_hand(self):
        stages = [("pq", (0, 1))]
        # The first wire is named by this stage alone: it is inner too, where it isn't seen.
        self.assertEqual(closed(WORK, stages), Work(
            [("c", 2), ("d", 2), ("e", 3)],
            [("pq", [("rows", ("c",), ((0,), (1,)))]), ("r", [("turned", "d", "c")]), ("s", [("fixed", "e", 2)])]))
        self.assertEqual(closed(WORK, stages, seen=("a",)), Work(
            [("a", 2), ("c", 2), ("d", 2), ("e", 3)],
            [("pq", [("rows", ("a", "c"), ALIKE)]), ("r", [("turned", "d", "c")]), ("s", [("fixed", "e", 2)])]))
        self.assertEqual(closed(stages=[("pr", (0, 2))], work=WORK, seen=["d"]), Work(
            [("b", 2), ("c", 2), ("d", 2), ("e", 3)],
            [("pr", [("rows", ("b", "c", "d"), tuple((b, c, 1 - c) for b in (0, 1) for c in (0, 1)))]),
             ("q", [("turned", "c", "b")]), ("s", [("fixed", "e", 2)])]))

    def test_seen_wires_stay(self):
        lot = (0, 1, 2)
        for seen in (["d", "a"], ("a", "d")):
            self.assertEqual(closed(WORK, [("pqr", lot)], seen=seen), Work(
                [("a", 2), ("d", 2), ("e", 3)], [("pqr", [("rows", ("a", "d"), TURNED)]), ("s", [("fixed", "e", 2)])]))
        self.assertEqual(closed(WORK, [("pqr", lot)], seen=["b"]).parts()[0], ("pqr", [("rows", ("b",), ((0,), (1,)))]))
        self.assertEqual(closed(WORK, [("pq", (0, 1))], seen=["b", "e", "a"]).wires(), WIRES)
        self.assertEqual(closed(WORK, [("pq", (0, 1))], seen=["b", "a"]).parts()[0], (
            "pq", [("rows", ("a", "b", "c"), ((0, 1, 0), (1, 0, 1)))]))

    def test_no_stages(self):
        for seen in ((), [], ["a"], ("e", "b")):
            self.assertEqual(closed(WORK, [], seen=seen), WORK)
        self.assertEqual(closed(Work([("a", 2)]), []), Work([("a", 2)]))

    def test_wires_that_no_tie_names_stay(self):
        work = Work(WIRES + [("f", 2)], PARTS)
        self.assertEqual(closed(work, [("pq", (0, 1))]).wires(), [("c", 2), ("d", 2), ("e", 3), ("f", 2)])

    def test_one_part_in_a_stage(self):
        told = closed(WORK, [("x", (1,))])
        self.assertEqual(told.wires(), WIRES)
        self.assertEqual(told.parts(), [PARTS[0], ("x", [("rows", ("b", "c"), TURNED)]), *PARTS[2:]])
        self.assertEqual(closed(WORK, [("x", (0,))]).wires(), WIRES[1:])

    def test_called_like_parts_within_stages(self):
        self.assertEqual([name for name, _ in closed(WORK, [("q", (0, 1))]).parts()], ["q", "r", "s"])
        # Each is called like a part of the other.
        told = closed(WORK, [("r", (0, 1)), ("p", (2, 3))], seen=["e"])
        self.assertEqual([name for name, _ in told.parts()], ["r", "p"])
        self.assertEqual([name for name, _ in closed(WORK, [("a", (0, 1))]).parts()], ["a", "r", "s"])

    def test_each_where_its_first_part_stood(self):
        told = closed(WORK, [("last", (2, 3)), ("first", (0,))], seen=["e", "a"])
        self.assertEqual([name for name, _ in told.parts()], ["first", "q", "last"])
        told = closed(WORK, [("x", (1, 3)), ("y", (0, 2))], seen=["e", "a"])
        self.assertEqual([name for name, _ in told.parts()], ["y", "x"])

    def test_a_stage_that_cannot_be_sound(self):
        work = Work([("a", 2), ("b", 2)], [("p", [("same", "a", "b")]), ("q", [("turned", "a", "b")]), ("r", [("same", "a", "b")])])
        self.assertEqual(closed(work, [("x", (0, 1))]).parts()[0], ("x", [("rows", ("a", "b"), ())]))

    def test_wires_of_two_stages_are_inner_to_neither(self):
        told = closed(WORK, [("x", (0, 1)), ("y", (2, 3))], seen=["a"])
        self.assertEqual(told.wires(), [("a", 2), ("c", 2)])
        self.assertEqual(told.parts(), [("x", [("rows", ("a", "c"), ALIKE)]), ("y", [("rows", ("c",), ((0,), (1,)))])])

    def test_many_works(self):
        tried = refused = 0
        for wires, parts, stages, seen in some_closings(400, 111):
            right = closed_slowly(wires, parts, stages, seen)
            work = Work(wires, parts)
            if right is None:
                self.assertRaises(NoStages, closed, work, stages, seen=seen)
                refused += 1
            else:
                self.assertEqual(closed(work, stages, seen=seen), Work(*right))
                tried += bool(stages)
        self.assertGreater(tried, 100)
        self.assertGreater(refused, 20)

    def test_blamed_as_the_opened_one(self):
        chance = random.Random(112)
        tried = 0
        for wires, parts, stages, seen in some_closings(120, 112):
            if closed_slowly(wires, parts, stages, seen) is None:
                continue
            work, told = Work(wires, parts), closed(Work(wires, parts), stages, seen=seen)
            for _ in range(3):
                looks = some_looks(chance, told.wires())
                wire, many = chance.choice(told.wires())
                aim = (wire, chance.randrange(many))
                for lot in lots_slowly(len(told)):
                    opened = lot_opened(work, stages, lot)
                    self.assertEqual(count_worlds(told, lot, looks) == 0, count_worlds(work, opened, looks) == 0)
                    self.assertEqual(follows(told, lot, looks, aim)[0], follows(work, opened, looks, aim)[0])
                lots = sorted({lot_closed(work, stages, lot) for lot in broken(work, looks)}, key=lambda lot: (len(lot), lot))
                self.assertEqual(broken(told, looks), least_slowly(lots))
                tried += 1
        self.assertGreater(tried, 100)


class Lots(unittest.TestCase):
    def test_by_hand(self):
        stages = [("x", (1, 3)), ("y", (0,))]
        for lot, told in [((), ()), ((0,), (0,)), ((1,), (1,)), ((2,), (2,)), ((3,), (1,)), ((1, 3), (1,)), ((0, 3), (0, 1)),
                          ((0, 1, 2, 3), (0, 1, 2))]:
            self.assertEqual(lot_closed(WORK, stages, lot), told)
        for lot, told in [((), ()), ((0,), (0,)), ((1,), (1, 3)), ((2,), (2,)), ((0, 2), (0, 2)), ((1, 2), (1, 2, 3)),
                          ((0, 1, 2), (0, 1, 2, 3))]:
            self.assertEqual(lot_opened(WORK, stages, lot), told)
        self.assertEqual(lot_closed(lot=(1, 2), stages=[], work=WORK), (1, 2))
        self.assertEqual(lot_opened(lot=(1, 2), stages=[], work=WORK), (1, 2))

    def test_inner_wires_are_not_looked_at(self):
        stages = [("all", (0, 1, 2, 3))]
        self.assertRaises(NoStages, closed, WORK, stages)
        self.assertEqual(lot_closed(WORK, stages, (2,)), (0,))
        self.assertEqual(lot_opened(WORK, stages, (0,)), (0, 1, 2, 3))

    def test_many_works(self):
        for wires, parts, stages, seen in some_closings(150, 113):
            work, rows = Work(wires, parts), rows_slowly(parts, stages)
            for lot in lots_slowly(len(parts)):
                told = lot_closed(work, stages, lot)
                self.assertEqual(told, tuple(n for n, row in enumerate(rows) if set(row) & set(lot)))
                self.assertTrue(set(lot) <= set(lot_opened(work, stages, told)))
            for lot in lots_slowly(len(rows)):
                opened = lot_opened(work, stages, lot)
                self.assertEqual(opened, tuple(sorted(p for n in lot for p in rows[n])))
                self.assertEqual(lot_closed(work, stages, opened), lot)


# What is no stage of the work by itself.
WRONG = [(), ("x",), ("x", (0,), 0), ["x", (0,)], ("x", [0]), ("x", ()), ("x", (0, 0)), ("x", (1, 0)), ("x", (4,)), ("x", (-1,)),
         ("x", (True,)), ("x", (0.0,)), ("x", 0), ("x", None), ("", (0,)), ("X", (0,)), ("toolong", (0,)), ("x y", (0,)),
         (None, (0,)), (0, (0,)), ((0,), "x"), "x0", b"x0", ("x", "0"), ("x", ("p",))]


class Refused(Refusing, unittest.TestCase):
    def refused(self, error, fields, calls):
        for call in calls:
            self.refused_so(error, fields, call)

    def doors(self, stages, work=WORK):
        """Each call, with whatever is behind the stages wrong."""
        return [lambda: closed(work, stages), lambda: closed(work, stages, seen=None),
                lambda: lot_closed(work, stages, None), lambda: lot_opened(work, stages, None)]

    def test_no_work(self):
        for thing in odd_things() + [WIRES, Work, (WORK,)]:
            self.refused(NoWork, {"part": "work", "number": None, "tie": None}, self.doors(None, thing))

    def test_no_list(self):
        for thing in odd_things() + [(), (("x", (0,)),), {"x": (0,)}, "x"]:
            if thing.__class__ is not list:
                self.refused(NoStages, {"number": None}, self.doors(thing))

    def test_none_by_itself(self):
        for thing in odd_things() + WRONG:
            self.refused(NoStages, {"number": 0}, self.doors([thing]))
            self.refused(NoStages, {"number": 0}, self.doors([thing, None]))
            self.refused(NoStages, {"number": 1}, self.doors([("y", (3,)), thing]))
        for thing in odd_things():
            self.refused(NoStages, {"number": 0}, self.doors([(thing, (0,))]) + self.doors([("x", thing)]))
            self.refused(NoStages, {"number": 1}, self.doors([("y", (3,)), ("x", (thing,))]))

    def test_by_those_ahead(self):
        one = ("x", (1, 2))
        for thing in [one, ("x", (0,)), ("y", (1,)), ("y", (0, 2)), ("y", (1, 2)), ("y", (0, 1, 2, 3))]:
            self.refused(NoStages, {"number": 1}, self.doors([one, thing]))
            self.refused(NoStages, {"number": 2}, self.doors([one, ("z", (3,)), thing, None]))

    def test_called_like_a_part_of_no_stage(self):
        self.refused(NoStages, {"number": 0}, self.doors([("q", (0,))]))
        self.refused(NoStages, {"number": 1}, self.doors([("x", (0,)), ("s", (1, 2))]))
        # Whatever is none by itself or by those ahead goes first, however far behind.
        self.refused(NoStages, {"number": 2}, self.doors([("q", (0,)), ("x", (2,)), ("x", (3,))]))
        self.refused(NoStages, {"number": 1}, self.doors([("q", (0,)), None]))
        self.assertEqual(lot_closed(WORK, [("q", (0,)), ("p", (1,))], (0,)), (0,))

    def test_no_wires(self):
        for thing in odd_things() + [["a", "a"], ("a", "z"), ["p"], "a", {"a"}, {"a": 0}, ["A"], [0], None, ["a", None]]:
            if thing.__class__ in (list, tuple) and plain(thing):
                continue
            # Ahead of the stage all of whose wires are inner.
            for stages in ([], [("x", (0, 1))], [("all", (0, 1, 2, 3))]):
                self.refused(NoWires, {}, [lambda: closed(WORK, stages, seen=thing)])
        for thing in odd_things():
            self.refused(NoWires, {}, [lambda: closed(WORK, [], seen=["a", thing]), lambda: closed(WORK, [], seen=(thing, "b"))])

    def test_all_wires_inner(self):
        self.refused(NoStages, {"number": 0}, [lambda: closed(WORK, [("x", (3,))])])
        self.refused(NoStages, {"number": 1}, [lambda: closed(WORK, [("x", (0, 1)), ("y", (3,)), ("z", (2,))])])
        self.refused(NoStages, {"number": 0}, [lambda: closed(WORK, [("x", (0, 1, 2)), ("y", (3,))], seen=["e"])])
        self.refused(NoStages, {"number": 1}, [lambda: closed(WORK, [("x", (0, 1, 2)), ("y", (3,))], seen=["c"])])
        self.assertEqual(len(closed(WORK, [("x", (0, 1, 2)), ("y", (3,))], seen=["c", "e"])), 2)

    def test_no_lot(self):
        stages = [("x", (1, 3)), ("y", (0,))]
        for thing in odd_things() + [[0], "0", 0]:
            if thing.__class__ is not tuple:
                self.refused(NoLot, {"number": None}, [
                    lambda: lot_closed(WORK, stages, thing), lambda: lot_opened(WORK, stages, thing)])
            self.refused(NoLot, {"number": 1}, [
                lambda: lot_closed(WORK, stages, (0, thing)), lambda: lot_opened(WORK, stages, (0, thing))])
        for lot, number in [((0, 0), 1), ((1, 0), 1), ((0, 1, 4), 2), ((-1,), 0), ((True,), 0)]:
            self.refused(NoLot, {"number": number}, [
                lambda: lot_closed(WORK, stages, lot), lambda: lot_opened(WORK, stages, lot)])
        # The closed work has three parts only.
        self.assertEqual(lot_closed(WORK, stages, (3,)), (1,))
        self.refused(NoLot, {"number": 0}, [lambda: lot_opened(WORK, stages, (3,))])

    def test_what_is_handed_in_stays_as_it_was(self):
        stages, seen = [("x", (1, 3)), ("y", (0,))], ["e", "a"]
        before = copy.deepcopy((stages, seen))
        closed(WORK, stages, seen=seen), lot_closed(WORK, stages, (0, 1)), lot_opened(WORK, stages, (0, 1))
        self.assertRaises(NoWires, closed, WORK, stages, seen=seen + seen)
        self.assertRaises(NoLot, lot_opened, WORK, stages, (3,))
        self.assertEqual((stages, seen), before)
        told = closed(WORK, stages, seen=seen)
        stages.clear(), seen.clear()
        self.assertEqual(told, closed(WORK, before[0], seen=before[1]))
        self.assertEqual(WORK, Work(WIRES, PARTS))


def plain(thing):
    """Whether these are unlike names of wires of the work."""
    return all(name.__class__ is str and name in dict(WIRES) for name in thing) and len(set(thing)) == len(thing)


if __name__ == "__main__":
    unittest.main()
