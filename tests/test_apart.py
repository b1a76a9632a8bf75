"""[0.2]: what is handed in is neither changed nor kept; what is told is the asker's own."""

import copy
import inspect
import unittest

from leastblame.beats import beat_looks, beat_worlds, over_beats
from leastblame.bench import Bench
from leastblame.blames import blame_of, broken, is_blame
from leastblame.cases import follows, is_tree, refuted
from leastblame.chances import broken_chances, chances
from leastblame.clashes import clashing, meeting
from leastblame.errors import NoAim, NoLook, NoLot, NoNumber, NoText, NoWays, NoWires, NoWork, NoWorld
from leastblame.foes import foe_of, is_foe
from leastblame.labels import is_label, label_of, label_row, lots_of
from leastblame.naming import called, led_looks, led_lot
from leastblame.plans import accounts, is_plan, mean_plan, worst_plan
from leastblame.stages import closed, lot_closed, lot_opened
from leastblame.works import Work
from leastblame.worktexts import read, shown
from leastblame.worlds import all_worlds, count_worlds, first_world, is_world, sound_in

from helpers import TIES, WIRES
from planning import odd_or_even, row_of, row_ways


def parts_now():
    """Parts, three of which share one list of ties."""
    ties = list(TIES)
    return [("p", ties), ("q", ties), ("r", [("same", "a", "d")]), ("s", ties)]


def circuit():
    """A work with looks that three lots clash with, and an aim that follows by two lots."""
    work = Work([("a", 2), ("b", 2), ("c", 2), ("d", 2), ("e", 2)], [
        ("p", [("same", "b", "a")]), ("q", [("same", "c", "b")]), ("r", [("same", "d", "c")]), ("s", [("fixed", "e", 0)]),
        ("t", [("fixed", "c", 0)])])
    return work, [("is", "a", 0), ("is", "d", 1), ("is", "e", 1)], ("c", 0)


def asked(work, looks, aim):
    """Each call that tells lots or papers, by its name."""
    return {
        "refuted": lambda: refuted(work, (0, 1, 2), looks), "the world": lambda: refuted(work, (0, 1), looks),
        "follows": lambda: follows(work, (0, 1), looks, aim), "another world": lambda: follows(work, (0,), looks, aim),
        "clashing": lambda: clashing(work, looks), "meeting": lambda: meeting(work, [(0, 1), (2,)]),
        "broken": lambda: broken(work, looks), "blame_of": lambda: blame_of(work, looks),
        "lots_of": lambda: lots_of(work, looks, aim), "label_row": lambda: label_row(work, looks, "c"),
        "a row of none": lambda: label_row(work, [], "c"), "label_of": lambda: label_of(work, looks, aim)}


def row():
    """A work with looks, open wires and ways: one of five parts in a row is broken."""
    wires, parts, looks = row_of(5)
    return Work(wires, parts), looks, list("bcde"), row_ways([(1, 3), (1, 5), (1, 9), (1, 17), (1, 33)])


def planned(work, looks, open_wires, ways):
    """Each call that tells chances, accounts, plans or a foe, by its name."""
    return {
        "chances": lambda: chances(work, ways, looks), "broken_chances": lambda: broken_chances(work, ways, looks),
        "accounts": lambda: accounts(work, looks), "worst_plan": lambda: worst_plan(work, looks, open_wires),
        "mean_plan": lambda: mean_plan(work, looks, open_wires),
        "by ways": lambda: mean_plan(work, looks, open_wires, ways=ways), "foe_of": lambda: foe_of(work, looks, open_wires)}


class HandedIn(unittest.TestCase):
    def test_works_leave_it_as_it_was(self):
        wires, parts = list(WIRES), parts_now()
        before = copy.deepcopy((wires, parts))
        work = Work(wires, parts)
        shown(work), repr(work), len(work), work.wires(), work.parts(), work == Work(wires, parts)
        self.assertEqual((wires, parts), before)

    def test_refused_works_leave_it_as_it_was(self):
        for wires, parts in [(list(WIRES) + [None], []), (list(WIRES), parts_now() + [None]),
                             (list(WIRES), [("p", list(TIES) + [("same", "a")])])]:
            before = copy.deepcopy((wires, parts))
            self.assertRaises(NoWork, Work, wires, parts)
            self.assertEqual((wires, parts), before)

    def test_works_keep_nothing_of_it(self):
        wires, parts = list(WIRES), parts_now()
        work = Work(wires, parts)
        told = (work.wires(), work.parts(), shown(work), repr(work), len(work), all_worlds(work, (2,), []))
        parts[0][1].clear()
        parts[2][1][0] = ("same", "a", "b")
        parts[2][1].append(None)
        del parts[1:]
        wires.reverse()
        wires.pop()
        self.assertEqual(told, (work.wires(), work.parts(), shown(work), repr(work), len(work), all_worlds(work, (2,), [])))
        self.assertEqual(work, Work(WIRES, parts_now()))
        self.assertEqual(work.wire_number("a"), 0)
        self.assertEqual(work.part_number("s"), 3)

    def test_worlds_and_looks_stay_as_they_were(self):
        work = Work(WIRES, parts_now())
        world, looks = [1, 2, 3, 1], [("isnt", "a", 0), ("is", "b", 2), ("isnt", "a", 0)]
        before = copy.deepcopy((world, looks))
        is_world(work, world), sound_in(work, world)
        first_world(work, (2,), looks), all_worlds(work, (2,), looks), count_worlds(work, (2,), looks)
        self.assertEqual((world, looks), before)
        looks.append(None)
        for ask in (first_world, all_worlds, count_worlds):
            self.assertRaises(NoLook, ask, work, (), looks)
            self.assertRaises(NoLot, ask, work, (9,), looks)
        self.assertEqual(looks, before[1] + [None])
        world.append(0)
        self.assertRaises(NoWorld, sound_in, work, world)
        self.assertEqual(world, before[0] + [0])

    def test_papers_and_lots_leave_looks_as_they_were(self):
        work, looks, aim = circuit()
        other, before, _ = circuit()
        for call in asked(work, looks, aim).values():
            call()
            self.assertEqual(looks, before)
            self.assertEqual((work, repr(work)), (other, repr(other)))
        lots = [(0, 1), (2,), (0, 1)]
        meeting(work, lots)
        self.assertEqual(lots, [(0, 1), (2,), (0, 1)])

    def test_checkers_leave_papers_as_they_were(self):
        work, looks, aim = circuit()
        tree, aimed = refuted(work, (0, 1, 2), looks)[1], follows(work, (0, 1), looks, aim)[1]
        blame, label = blame_of(work, looks), label_of(work, looks, aim)
        before = copy.deepcopy((looks, tree, aimed, blame, label))
        self.assertIs(is_tree(work, (0, 1, 2), looks, tree), True)
        self.assertIs(is_tree(work, (0, 1), looks, aimed, goal=aim), True)
        self.assertIs(is_tree(work, (0, 1), looks, aimed), False)
        self.assertIs(is_blame(work, looks, blame), True)
        self.assertIs(is_blame(work, looks[:2], blame), False)
        self.assertIs(is_label(work, looks, aim, label), True)
        self.assertIs(is_label(work, looks, ("c", 1), label), False)
        self.assertEqual((looks, tree, aimed, blame, label), before)

    def test_refusals_leave_looks_and_lots_as_they_were(self):
        work, looks, aim = circuit()
        looks.append(None)
        before = list(looks)
        for name, call in asked(work, looks, aim).items():
            if name not in ("meeting", "a row of none"):
                self.assertRaises(NoLook, call)
        self.assertRaises(NoAim, lots_of, work, looks[:3], None)
        self.assertEqual(looks, before)
        lots = [(0,), None, (0, 0)]
        self.assertRaises(NoLot, meeting, work, lots)
        self.assertEqual(lots, [(0,), None, (0, 0)])

    def test_what_is_handed_in_is_not_kept(self):
        work, looks, aim = circuit()
        told = {name: call() for name, call in asked(work, looks, aim).items()}
        before = copy.deepcopy(told)
        looks.clear()
        self.assertEqual(told, before)
        work, looks, aim = circuit()
        self.assertEqual({name: call() for name, call in asked(work, looks, aim).items()}, before)

    def test_plans_and_chances_leave_all_as_it_was(self):
        work, *handed = row()
        before = copy.deepcopy(handed)
        for call in planned(work, *handed).values():
            call()
            self.assertEqual(handed, before)
            self.assertEqual((work, repr(work)), (row()[0], repr(row()[0])))
        looks, open_wires, ways = handed
        papers = (worst_plan(work, looks, open_wires)[1], foe_of(work, looks, open_wires))
        before = copy.deepcopy((handed, papers))
        for number in (2, 1):
            self.assertIs(is_foe(work, looks, open_wires, number, papers[1]), number == 2)
        self.assertIs(is_plan(work, looks, open_wires, papers[0]), True)
        self.assertIs(is_plan(work, looks, open_wires[1:], papers[0]), False)
        self.assertEqual((handed, papers), before)

    def test_plans_and_chances_keep_nothing(self):
        work, *handed = row()
        told = {name: call() for name, call in planned(work, *handed).items()}
        before = copy.deepcopy(told)
        for some in handed[2]:
            some[0][1].clear()
            some.clear()
        for thing in handed:
            thing.clear()
        self.assertEqual(told, before)
        self.assertEqual({name: call() for name, call in planned(work, *row()[1:]).items()}, before)

    def test_refused_plans_and_chances_leave_all_as_it_was(self):
        work, looks, open_wires, ways = row()
        bad_looks, bad_open, bad_ways = [*looks, None], [*open_wires, "b"], [*ways[:4], [None]]
        before = copy.deepcopy((looks, open_wires, ways, bad_looks, bad_open, bad_ways))
        for call in planned(work, bad_looks, bad_open, ways).values():
            self.assertRaises(NoLook, call)
        for name, call in planned(work, looks, bad_open, bad_ways).items():
            if name != "accounts":
                self.assertRaises(NoWays if "chances" in name else NoWires, call)
        self.assertRaises(NoWays, mean_plan, work, looks, open_wires, ways=bad_ways)
        self.assertRaises(NoNumber, is_foe, work, looks, open_wires, -1, None)
        self.assertEqual((looks, open_wires, ways, bad_looks, bad_open, bad_ways), before)

    def test_refusals_change_no_work(self):
        work = Work(WIRES, parts_now())
        before = (work.wires(), work.parts())
        self.assertRaises(NoWorld, sound_in, work, None)
        self.assertRaises(NoLot, all_worlds, work, None, None)
        self.assertRaises(KeyError, work.wire_number, [])
        self.assertRaises(KeyError, work.part_number, [])
        self.assertRaises(NoText, read, shown(work) + "\n")
        self.assertEqual((work.wires(), work.parts()), before)


class ToldOut(unittest.TestCase):
    def lists_in(self, thing):
        """All lists within the thing, itself too."""
        found = [thing] if isinstance(thing, list) else []
        if isinstance(thing, (list, tuple)):
            for inner in thing:
                found += self.lists_in(inner)
        return found

    def own(self, ask):
        """Each list told is a new one, at one place; what is done to it changes no later answer."""
        first, second = ask(), ask()
        before = copy.deepcopy(first)
        lists = self.lists_in(first) + self.lists_in(second)
        self.assertEqual(len({id(one) for one in lists}), len(lists))
        for one in self.lists_in(first):
            one.clear()
        self.assertEqual(second, before)
        self.assertEqual(ask(), before)

    def test_works(self):
        work = Work(WIRES, parts_now())
        other = Work(WIRES, work.parts())
        self.own(work.wires)
        self.own(work.parts)
        self.assertEqual(work, other)
        self.assertEqual(repr(work), repr(other))
        self.assertEqual(shown(work), shown(other))

    def test_inner_lists_are_apart(self):
        work = Work(WIRES, parts_now())
        told = work.parts()
        told[0][1].append(None)
        told[2][1][0] = None
        self.assertEqual(told[1][1], TIES)
        self.assertEqual(work.parts(), parts_now())

    def test_works_read(self):
        work = read(shown(Work(WIRES, parts_now())))
        self.own(work.parts)
        self.own(work.wires)

    def test_worlds(self):
        work = Work(WIRES, [("p", [("same", "a", "d")])])
        self.own(lambda: all_worlds(work, (0,), []))
        self.own(lambda: first_world(work, (0,), [("isnt", "b", 0)]))

    def test_lots_and_papers(self):
        for name, call in asked(*circuit()).items():
            with self.subTest(name):
                self.own(call)

    def test_all_at_once(self):
        for calls in (asked(*circuit()), planned(*row())):
            told = {name: call() for name, call in calls.items()}
            before = copy.deepcopy(told)
            lists = [one for name in told for one in self.lists_in(told[name])]
            self.assertEqual(len({id(one) for one in lists}), len(lists))
            for one in lists:
                one.clear()
            self.assertEqual({name: call() for name, call in calls.items()}, before)

    def test_looks_that_cannot_be_met(self):
        work = circuit()[0]
        for call in asked(work, [("is", "a", 0), ("is", "a", 1)], ("c", 0)).values():
            self.own(call)

    def test_plans_and_chances(self):
        wires, parts = odd_or_even((2, 3, 2))
        ways = [[((1, 7), []), ((1, 9), [("fixed", "a", 1)])]] * 2
        for handed in (row(), (Work(wires, parts), [], ["a", "b", "c"], ways)):
            for name, call in planned(*handed).items():
                with self.subTest(name):
                    self.own(call)

    def test_plans_where_there_are_no_accounts(self):
        work, looks, open_wires, ways = row()
        for name, call in planned(work, [*looks, ("is", "a", 1)], open_wires, ways).items():
            if "chances" not in name and name != "foe_of":
                self.own(call)

    def test_works_closed_over_beats_and_called_otherwise(self):
        work, looks, _ = circuit()
        small = Work([("a", 2), ("b", 2)], [("p", [("same", "b", "a")]), ("q", [("fixed", "a", 0)])])
        for make in (lambda: closed(work, [("x", (0, 1)), ("y", (2,))], seen=["a", "e"]), lambda: closed(work, []),
                     lambda: over_beats(small, [(0, "a", "b", 0)], beats=3), lambda: called(work),
                     lambda: called(work, order=[4, 3, 2, 1, 0])):
            self.own(lambda: (make().wires(), make().parts()))
            made = make()
            made.wires().clear()
            made.parts()[0][1].clear()
            self.assertEqual(made, make())
        self.own(lambda: beat_looks(work, looks, beat=1))
        self.own(lambda: led_looks(work, looks, wires=list("edcba")))
        self.own(lambda: led_looks(work, looks))
        self.own(lambda: beat_worlds(small, [0, 0, 1, 1, 0, 1]))
        world, worlds = [0, 0, 1, 1], []
        worlds.extend(beat_worlds(small, world))
        worlds[0][0] = worlds[1][0] = 9
        self.assertEqual(world, [0, 0, 1, 1])
        world = [0, 1]
        beat_worlds(small, world)[0].clear()
        self.assertEqual(world, [0, 1])
        self.assertEqual((work, looks), circuit()[:2])

    def test_benches(self):
        work, looks, _ = circuit()
        bench = Bench(work)
        for look in looks:
            bench.see(*look)
        bench.suppose([], "broken")
        for tell in (bench.looks, bench.clashing, bench.broken, bench.log, lambda: bench.lots("c"),
                     lambda: bench.twin().looks(), lambda: bench.twin().log(), lambda: bench.work().parts()):
            self.own(tell)
        for question in ("clashing", "broken"):
            self.own(lambda: bench.suppose(looks[:1], question))
        self.assertEqual((bench.looks(), bench.work()), (looks, work))

    def test_the_world_told_is_not_one_handed_in(self):
        work = Work([("a", 2)])
        worlds = all_worlds(work, (), [])
        worlds[0][0] = 1
        self.assertEqual(sound_in(work, worlds[0]), ())
        self.assertEqual(first_world(work, (), []), [0])


class Handed(unittest.TestCase):
    def test_names_and_order_of_what_is_handed_in(self):
        for call, names in [
            (Work, ["wires", "parts"]), (Work.wires, ["self"]), (Work.parts, ["self"]),
            (Work.wire_number, ["self", "name"]), (Work.part_number, ["self", "name"]),
            (shown, ["work"]), (read, ["text"]), (is_world, ["work", "thing"]), (sound_in, ["work", "world"]),
            (first_world, ["work", "lot", "looks"]), (all_worlds, ["work", "lot", "looks"]),
            (count_worlds, ["work", "lot", "looks"]), (is_tree, ["work", "lot", "looks", "thing", "goal"]),
            (refuted, ["work", "lot", "looks"]), (follows, ["work", "lot", "looks", "aim"]),
            (clashing, ["work", "looks"]), (meeting, ["work", "lots"]), (broken, ["work", "looks"]),
            (blame_of, ["work", "looks"]), (is_blame, ["work", "looks", "thing"]), (lots_of, ["work", "looks", "aim"]),
            (label_row, ["work", "looks", "wire"]), (label_of, ["work", "looks", "aim"]),
            (is_label, ["work", "looks", "aim", "thing"]), (chances, ["work", "ways", "looks"]),
            (broken_chances, ["work", "ways", "looks"]), (accounts, ["work", "looks"]),
            (is_plan, ["work", "looks", "open_wires", "thing"]), (worst_plan, ["work", "looks", "open_wires"]),
            (mean_plan, ["work", "looks", "open_wires", "ways"]), (foe_of, ["work", "looks", "open_wires"]),
            (is_foe, ["work", "looks", "open_wires", "number", "thing"]),
            (closed, ["work", "stages", "seen"]), (lot_closed, ["work", "stages", "lot"]),
            (lot_opened, ["work", "stages", "lot"]), (over_beats, ["work", "delays", "beats"]),
            (beat_looks, ["work", "looks", "beat"]), (beat_worlds, ["work", "world"]),
            (called, ["work", "wires", "parts", "order"]), (led_lot, ["work", "lot", "order"]),
            (led_looks, ["work", "looks", "wires"]), (Bench, ["work"]), (Bench.see, ["self", "word", "wire", "value"]),
            (Bench.take, ["self", "number"]), (Bench.exchange, ["self", "part", "ties"]), (Bench.back, ["self"]),
            (Bench.work, ["self"]), (Bench.looks, ["self"]), (Bench.clashing, ["self"]), (Bench.broken, ["self"]),
            (Bench.lots, ["self", "wire"]), (Bench.next_look, ["self", "open_wires"]),
            (Bench.suppose, ["self", "looks", "question", "open_wires"]), (Bench.log, ["self"]), (Bench.twin, ["self"]),
        ]:
            self.assertEqual(list(inspect.signature(call).parameters), names)

    def test_what_is_handed_in_by_its_name_alone(self):
        alone = {
            (is_tree, "goal"): None, (mean_plan, "ways"): None, (closed, "seen"): (), (over_beats, "beats"): 2,
            (beat_looks, "beat"): inspect.Parameter.empty, (Bench.suppose, "open_wires"): (), (called, "wires"): None,
            (called, "parts"): None, (called, "order"): None, (led_lot, "order"): None, (led_looks, "wires"): None}
        for (call, name), default in alone.items():
            told = inspect.signature(call).parameters[name]
            self.assertEqual((told.kind, told.default), (told.KEYWORD_ONLY, default))

    def test_methods_stand_in_the_class_itself(self):
        for name in ("wires", "parts", "wire_number", "part_number", "__len__", "__eq__", "__repr__", "__init__"):
            self.assertIn(name, vars(Work))


if __name__ == "__main__":
    unittest.main()
