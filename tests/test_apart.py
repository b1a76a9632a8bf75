"""[0.2]: what is handed in is neither changed nor kept; what is told is the asker's own."""

import copy
import inspect
import unittest

from leastblame.errors import NoLook, NoLot, NoText, NoWork, NoWorld
from leastblame.works import Work
from leastblame.worktexts import read, shown
from leastblame.worlds import all_worlds, count_worlds, first_world, is_world, sound_in

from helpers import TIES, WIRES


def parts_now():
    """Parts, three of which share one list of ties."""
    ties = list(TIES)
    return [("p", ties), ("q", ties), ("r", [("same", "a", "d")]), ("s", ties)]


class HandedIn(unittest.TestCase):
    def test_works_leave_it_as_it_was(self):
        wires, parts = list(WIRES), parts_now()
        before = copy.deepcopy((wires, parts))
        work = Work(wires, parts)
        shown(work), repr(work), len(work), work.wires(), work.parts(), work == Work(wires, parts)
        self.assertEqual((wires, parts), before)

    def test_refused_works_leave_it_as_it_was(self):
        for wires, parts in [(list(WIRES) + [None], []), (list(WIRES), parts_now() + [None]),
                             (list(WIRES), [("p", list(TIES) + [("same", "a")])])]:
            before = copy.deepcopy((wires, parts))
            self.assertRaises(NoWork, Work, wires, parts)
            self.assertEqual((wires, parts), before)

    def test_works_keep_nothing_of_it(self):
        wires, parts = list(WIRES), parts_now()
        work = Work(wires, parts)
        told = (work.wires(), work.parts(), shown(work), repr(work), len(work), all_worlds(work, (2,), []))
        parts[0][1].clear()
        parts[2][1][0] = ("same", "a", "b")
        parts[2][1].append(None)
        del parts[1:]
        wires.reverse()
        wires.pop()
        self.assertEqual(told, (work.wires(), work.parts(), shown(work), repr(work), len(work), all_worlds(work, (2,), [])))
        self.assertEqual(work, Work(WIRES, parts_now()))
        self.assertEqual(work.wire_number("a"), 0)
        self.assertEqual(work.part_number("s"), 3)

    def test_worlds_and_looks_stay_as_they_were(self):
        work = Work(WIRES, parts_now())
        world, looks = [1, 2, 3, 1], [("isnt", "a", 0), ("is", "b", 2), ("isnt", "a", 0)]
        before = copy.deepcopy((world, looks))
        is_world(work, world), sound_in(work, world)
        first_world(work, (2,), looks), all_worlds(work, (2,), looks), count_worlds(work, (2,), looks)
        self.assertEqual((world, looks), before)
        looks.append(None)
        for ask in (first_world, all_worlds, count_worlds):
            self.assertRaises(NoLook, ask, work, (), looks)
            self.assertRaises(NoLot, ask, work, (9,), looks)
        self.assertEqual(looks, before[1] + [None])
        world.append(0)
        self.assertRaises(NoWorld, sound_in, work, world)
        self.assertEqual(world, before[0] + [0])

    def test_refusals_change_no_work(self):
        work = Work(WIRES, parts_now())
        before = (work.wires(), work.parts())
        self.assertRaises(NoWorld, sound_in, work, None)
        self.assertRaises(NoLot, all_worlds, work, None, None)
        self.assertRaises(KeyError, work.wire_number, [])
        self.assertRaises(KeyError, work.part_number, [])
        self.assertRaises(NoText, read, shown(work) + "\n")
        self.assertEqual((work.wires(), work.parts()), before)


class ToldOut(unittest.TestCase):
    def lists_in(self, thing):
        """All lists within the thing, itself too."""
        found = [thing] if isinstance(thing, list) else []
        if isinstance(thing, (list, tuple)):
            for inner in thing:
                found += self.lists_in(inner)
        return found

    def own(self, ask):
        """Each list told is a new one, at one place; what is done to it changes no later answer."""
        first, second = ask(), ask()
        before = copy.deepcopy(first)
        lists = self.lists_in(first) + self.lists_in(second)
        self.assertEqual(len({id(one) for one in lists}), len(lists))
        for one in self.lists_in(first):
            one.clear()
        self.assertEqual(second, before)
        self.assertEqual(ask(), before)

    def test_works(self):
        work = Work(WIRES, parts_now())
        other = Work(WIRES, work.parts())
        self.own(work.wires)
        self.own(work.parts)
        self.assertEqual(work, other)
        self.assertEqual(repr(work), repr(other))
        self.assertEqual(shown(work), shown(other))

    def test_inner_lists_are_apart(self):
        work = Work(WIRES, parts_now())
        told = work.parts()
        told[0][1].append(None)
        told[2][1][0] = None
        self.assertEqual(told[1][1], TIES)
        self.assertEqual(work.parts(), parts_now())

    def test_works_read(self):
        work = read(shown(Work(WIRES, parts_now())))
        self.own(work.parts)
        self.own(work.wires)

    def test_worlds(self):
        work = Work(WIRES, [("p", [("same", "a", "d")])])
        self.own(lambda: all_worlds(work, (0,), []))
        self.own(lambda: first_world(work, (0,), [("isnt", "b", 0)]))

    def test_the_world_told_is_not_one_handed_in(self):
        work = Work([("a", 2)])
        worlds = all_worlds(work, (), [])
        worlds[0][0] = 1
        self.assertEqual(sound_in(work, worlds[0]), ())
        self.assertEqual(first_world(work, (), []), [0])


class Handed(unittest.TestCase):
    def test_names_and_order_of_what_is_handed_in(self):
        for call, names in [
            (Work, ["wires", "parts"]), (Work.wires, ["self"]), (Work.parts, ["self"]),
            (Work.wire_number, ["self", "name"]), (Work.part_number, ["self", "name"]),
            (shown, ["work"]), (read, ["text"]), (is_world, ["work", "thing"]), (sound_in, ["work", "world"]),
            (first_world, ["work", "lot", "looks"]), (all_worlds, ["work", "lot", "looks"]),
            (count_worlds, ["work", "lot", "looks"]),
        ]:
            self.assertEqual(list(inspect.signature(call).parameters), names)

    def test_methods_stand_in_the_class_itself(self):
        for name in ("wires", "parts", "wire_number", "part_number", "__len__", "__eq__", "__repr__", "__init__"):
            self.assertIn(name, vars(Work))


if __name__ == "__main__":
    unittest.main()
