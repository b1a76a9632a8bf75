"""[4.1] and [4.2]: trees of cases, and what is told of a lot, looks and an aim."""

import itertools
import random
import unittest

from leastblame.cases import follows, is_tree, refuted
from leastblame.errors import NoAim, NoLook, NoLot, NoWork
from leastblame.works import Work
from leastblame.worlds import all_worlds

from helpers import WIRES, fields_of, odd_things, some_cases
from papers import GATES, PARTS, SEEN, TREE, bent, fitting_slowly, tree_slowly

WORK = Work(GATES, PARTS)

# By part 1 and the look a is 1: the other value breaks the tie whatever b is.
AIMED = ("cases", "a", [("cases", "x", [("look", 0), ("tie", 1, 0)]), ("aim",)])


class ByHand(unittest.TestCase):
    def right(self, work, lot, looks, thing, **more):
        self.assertIs(is_tree(work, lot, looks, thing, **more), True, thing)

    def wrong(self, work, lot, looks, thing, **more):
        self.assertIs(is_tree(work, lot, looks, thing, **more), False, thing)

    def test_right_trees(self):
        self.right(WORK, (0, 1), SEEN, TREE)
        self.right(WORK, (0, 1), SEEN, TREE, goal=("a", 0))
        self.right(WORK, (1,), SEEN, AIMED, goal=("a", 1))
        self.right(WORK, (0, 1), SEEN, AIMED, goal=("a", 1))
        self.assertIs(is_tree(thing=TREE, looks=SEEN, lot=(0, 1), work=WORK, goal=None), True)

    def test_the_tree_by_other_lots_and_looks(self):
        for lot in ((), (0,), (1,)):
            self.wrong(WORK, lot, SEEN, TREE)
        for looks in ([], [("is", "x", 0)], [("isnt", "x", 1)], [("is", "a", 1)], [("isnt", "b", 0), SEEN[0]]):
            self.wrong(WORK, (0, 1), looks, TREE)
        self.right(WORK, (0, 1), [("isnt", "x", 0)], TREE)
        self.right(WORK, (0, 1), SEEN + [("is", "a", 1)], TREE)

    def test_the_aim(self):
        self.wrong(WORK, (1,), SEEN, AIMED)
        self.wrong(WORK, (1,), SEEN, AIMED, goal=("a", 0))
        self.wrong(WORK, (1,), SEEN, AIMED, goal=("b", 1))
        self.wrong(WORK, (1,), SEEN, AIMED, goal=("x", 1))
        self.wrong(WORK, (), SEEN, AIMED, goal=("a", 1))
        self.wrong(WORK, (), [], ("aim",), goal=("a", 1))
        self.wrong(WORK, (), [], ("cases", "a", [("aim",), ("aim",)]), goal=("a", 1))
        self.right(WORK, (), [("is", "a", 1)], ("cases", "a", [("look", 0), ("aim",)]), goal=("a", 1))
        for thing in [("aim", 0), ("aim", None), ("aim", "a", 1), ("aim", ("a", 1)), ["aim"], "aim", ("aims",)]:
            self.wrong(WORK, (1,), SEEN, ("cases", "a", [AIMED[2][0], thing]), goal=("a", 1))

    def test_a_leaf_exchanged(self):
        leaves = [("tie", 0, 0), ("tie", 1, 0), ("look", 0), ("aim",)]
        right = {"x0": 2, "a0": 1, "b0": 1, "b1": 0}

        def tree(**told):
            leaf = {place: leaves[told.get(place, right[place])] for place in right}
            return ("cases", "x", [
                leaf["x0"], ("cases", "a", [leaf["a0"], ("cases", "b", [leaf["b0"], leaf["b1"]])])])

        self.assertEqual(tree(), TREE)
        for place in right:
            for number in range(len(leaves)):
                self.assertIs(is_tree(WORK, (0, 1), SEEN, tree(**{place: number})), number == right[place])

    def test_wires(self):
        leaf = ("tie", 0, 0)
        work = Work(WIRES, [("p", [("rows", ("a",), ())])])
        for name, many in WIRES:
            for trees in range(6):
                self.assertIs(is_tree(work, (0,), [], ("cases", name, [leaf] * trees)), trees == many)
        for wire in odd_things() + ["z", "p", "ab", "A", 0, ["a"], ("a",), ""]:
            for trees in range(5):
                self.wrong(work, (0,), [], ("cases", wire, [leaf] * trees))
        self.wrong(work, (0,), [], ("cases", "a", (leaf, leaf)))
        self.wrong(work, (0,), [], ("cases", "a", [leaf, leaf], leaf))
        self.wrong(work, (0,), [], ("cases", "a"))
        self.wrong(work, (0,), [], ["cases", "a", [leaf, leaf]])
        self.wrong(work, (0,), [], ("case", "a", [leaf, leaf]))

    def test_a_wire_told_twice(self):
        leaf = ("tie", 0, 0)
        work = Work(WIRES, [("p", [("rows", ("a",), ())])])
        inner = ("cases", "d", [leaf, leaf])
        self.right(work, (0,), [], ("cases", "a", [inner, inner]))
        self.wrong(work, (0,), [], ("cases", "a", [leaf, ("cases", "a", [leaf, leaf])]))
        self.wrong(work, (0,), [], ("cases", "d", [leaf, ("cases", "a", [leaf, inner])]))
        # What is told in one tree is not told in the tree beside it.
        self.right(work, (0,), [], ("cases", "a", [inner, ("cases", "b", [leaf, inner, leaf])]))

    def test_looks(self):
        work = Work([("a", 3), ("b", 2)])
        looks = [("is", "a", 1), ("isnt", "a", 1), ("is", "b", 0)]
        self.right(work, (), looks, ("cases", "a", [("look", 0), ("look", 1), ("look", 0)]))
        for at, right in [(0, 0), (1, 1), (2, 0)]:
            for number in odd_things() + [0, 1, 2, 3, "0", [0], (0,), 0.0]:
                trees = [("look", 0), ("look", 1), ("look", 0)]
                trees[at] = ("look", number)
                expected = number.__class__ is int and number == right
                self.assertIs(is_tree(work, (), looks, ("cases", "a", trees)), expected)
        self.wrong(work, (), looks, ("look", 0))
        self.wrong(work, (), looks, ("look", 2))
        for thing in [("look",), ("look", 0, 0), ["look", 0], ("looks", 0), "look"]:
            self.wrong(work, (), looks, ("cases", "a", [thing, ("look", 1), ("look", 0)]))

    def test_parts_and_ties_by_number(self):
        never = ("rows", ("a",), ())
        work = Work([("a", 2)], [("p", [("same", "a", "a"), never]), ("q", [never]), ("r", [never, ("fixed", "a", 0)])])
        for part in odd_things() + [0, 1, 2, 3, "0", "p", (0,), 0.0, 1.0]:
            for number in odd_things() + [0, 1, 2, "0", (0,), 0.0, 1.0]:
                pair = (part, number) if part.__class__ is int and number.__class__ is int else None
                for lot in ((), (0,), (2,), (0, 1), (1, 2), (0, 1, 2)):
                    right = pair in [(0, 1), (1, 0), (2, 0)] and part in lot
                    self.assertIs(is_tree(work, lot, [], ("tie", part, number)), right)
        for thing in [("tie",), ("tie", 0), ("tie", 0, 1, 0), ("tie", (0, 1)), ["tie", 0, 1], ("ties", 0, 1), "tie"]:
            self.wrong(work, (0, 1, 2), [], thing)

    def test_by_no_values_of_the_wires_not_yet_told(self):
        two, three = [("x", 2), ("a", 2), ("b", 2), ("c", 2)], [("x", 3), ("a", 2), ("b", 2), ("c", 2)]
        for wires, tie, told, broken in [
            (two, ("fixed", "x", 1), {}, False),
            (two, ("fixed", "x", 2), {}, True),
            (three, ("fixed", "x", 2), {}, False),
            (three, ("fixed", "x", 2), {"x": 1}, True),
            (three, ("fixed", "x", 2), {"x": 2}, False),
            (three, ("fixed", "x", 2), {"a": 1}, False),
            (three, ("same", "x", "a"), {"x": 2}, True),
            (three, ("same", "x", "a"), {"x": 1}, False),
            (three, ("same", "a", "x"), {"x": 2}, True),
            (two, ("same", "x", "x"), {}, False),
            (two, ("turned", "x", "x"), {}, True),
            (three, ("turned", "x", "x"), {}, False),
            (three, ("turned", "x", "a"), {"x": 2}, True),
            (two, ("least", "x", "a", "b"), {"x": 1, "a": 0}, True),
            (two, ("least", "x", "a", "b"), {"x": 0, "a": 1}, False),
            (two, ("least", "x", "a", "b"), {"a": 1, "b": 0}, False),
            (two, ("most", "x", "a", "b"), {"x": 0, "b": 1}, True),
            (two, ("most", "x", "a", "b"), {"x": 1, "b": 0}, False),
            (three, ("sum", "x", "a", "b"), {"x": 2, "b": 0}, True),
            (two, ("sum", "x", "x", "b"), {"b": 1}, True),
            (two, ("sum", "x", "x", "b"), {"b": 0}, False),
            (three, ("pick", "x", "c", "a", "b"), {"x": 2}, True),
            (two, ("pick", "x", "c", "a", "b"), {"x": 1, "a": 0}, False),
            (two, ("pick", "x", "c", "a", "b"), {"x": 1, "a": 0, "c": 0}, True),
            (two, ("pick", "x", "c", "a", "b"), {"x": 1, "a": 0, "b": 0}, True),
            (two, ("pick", "x", "x", "a", "b"), {"a": 1, "b": 0}, True),
            (two, ("rows", ("x", "a"), ()), {}, True),
            (two, ("rows", ("x", "a"), ((0, 2), (2, 0), (3, 3))), {}, True),
            (two, ("rows", ("x", "a"), ((0, 1),)), {}, False),
            (two, ("rows", ("x", "a"), ((0, 1), (1, 2))), {"x": 1}, True),
            (two, ("rows", ("x", "a"), ((0, 1), (1, 2))), {"x": 0}, False),
            (two, ("rows", ("x", "a"), ((0, 1), (1, 2))), {"a": 0}, True),
        ]:
            work = Work(wires, [("p", [tie])])
            thing = ("tie", 0, 0)
            # The leaf stands within what is told; the looks end all other trees.
            for wire, value in told.items():
                trees = [("look", list(told).index(wire))] * dict(wires)[wire]
                trees[value] = thing
                thing = ("cases", wire, trees)
            looks = [("is", wire, value) for wire, value in told.items()]
            self.assertIs(is_tree(work, (0,), looks, thing), broken, (tie, told))

    def test_things_of_every_other_kind(self):
        for thing in odd_things() + [WORK, list(TREE), (TREE,), [TREE], ("tree", TREE), refuted]:
            self.wrong(WORK, (0, 1), SEEN, thing)
            self.wrong(WORK, (0, 1), SEEN, thing, goal=("a", 0))
            self.wrong(WORK, (0, 1), SEEN, (thing, "x", TREE[2]))
            self.wrong(WORK, (0, 1), SEEN, ("cases", "x", thing))
            self.wrong(WORK, (0, 1), SEEN, ("cases", "x", [("look", 0), thing]))

    def test_bent_at_one_place(self):
        for lot, tree, goal in [((0, 1), TREE, None), ((1,), AIMED, ("a", 1))]:
            let_by = 0
            for thing in bent(tree):
                right = tree_slowly((GATES, PARTS, lot, SEEN), thing, goal)
                self.assertIs(is_tree(WORK, lot, SEEN, thing, goal=goal), right)
                let_by += right
            self.assertEqual(let_by, 0)

    def test_rings(self):
        ring = []
        tree = ("cases", "a", ring)
        ring += [tree, tree]
        self.wrong(WORK, (0, 1), SEEN, tree)
        ring[0] = ("cases", "b", ring)
        self.wrong(WORK, (0, 1), SEEN, tree)


class JustOne(unittest.TestCase):
    def test_by_hand(self):
        self.assertEqual(refuted(WORK, (0, 1), SEEN)[0], "tree")
        self.assertEqual(refuted(WORK, (1,), SEEN), ("world", [1, 1, 1]))
        self.assertEqual(refuted(WORK, (0,), SEEN), ("world", [0, 1, 1]))
        self.assertEqual(refuted(work=WORK, lot=(), looks=[]), ("world", [0, 0, 0]))
        self.assertEqual(follows(WORK, (1,), SEEN, ("a", 1))[0], "tree")
        self.assertEqual(follows(WORK, (1,), SEEN, ("a", 0)), ("world", [1, 1, 1]))
        self.assertEqual(follows(WORK, (0,), SEEN, ("a", 1)), ("world", [0, 1, 1]))
        self.assertEqual(follows(WORK, (0,), SEEN, ("a", 0)), ("world", [1, 0, 1]))
        self.assertEqual(follows(work=WORK, lot=(0, 1), looks=SEEN, aim=("a", 0))[0], "tree")

    def test_looks_that_cannot_be_met(self):
        for work in (WORK, Work([("a", 2), ("z", 4)])):
            for looks in ([("is", "a", 0), ("is", "a", 1)], [("isnt", "a", 0), ("isnt", "a", 1)]):
                word, tree = refuted(work, (), looks)
                self.assertEqual((word, is_tree(work, (), looks, tree)), ("tree", True))
                word, tree = follows(work, (), looks, ("a", 0))
                self.assertEqual((word, is_tree(work, (), looks, tree, goal=("a", 0))), ("tree", True))

    def test_what_is_seen_follows(self):
        looks = [("isnt", "b", 0), ("isnt", "b", 2)]
        work = Work(WIRES)
        word, tree = follows(work, (), looks, ("b", 1))
        self.assertEqual((word, is_tree(work, (), looks, tree, goal=("b", 1))), ("tree", True))
        self.assertIs(is_tree(work, (), looks, tree), False)
        self.assertEqual(follows(work, (), looks, ("b", 0)), ("world", [0, 1, 0, 0]))
        self.assertEqual(follows(work, (), [], ("a", 0)), ("world", [1, 0, 0, 0]))

    def papers(self, case, told, goal=None):
        """One of a right tree and of the first world is told, as all worlds say."""
        wires, parts, lot, looks = case
        worlds = [world for world, sound in fitting_slowly(wires, parts, looks) if set(lot) <= sound]
        if goal is not None:
            at = [name for name, many in wires].index(goal[0])
            worlds = [world for world in worlds if world[at] != goal[1]]
        self.assertIs(told.__class__, tuple)
        self.assertEqual(len(told), 2)
        work = Work(wires, parts)
        if worlds:
            self.assertEqual(told, ("world", worlds[0]))
        else:
            self.assertEqual(told[0], "tree")
            self.assertIs(tree_slowly(case, told[1], goal), True)
            self.assertIs(is_tree(work, lot, looks, told[1], goal=goal), True)

    def test_many_works(self):
        chance = random.Random(2)
        for wires, parts, looks in some_cases(200, seed=11):
            work = Work(wires, parts)
            for _ in range(3):
                lot = tuple(sorted(chance.sample(range(len(parts)), chance.randint(0, len(parts)))))
                name, many = chance.choice(wires)
                aim = (name, chance.randrange(many))
                self.papers((wires, parts, lot, looks), refuted(work, lot, looks))
                self.papers((wires, parts, lot, looks), follows(work, lot, looks, aim), aim)

    def test_eight_wires_and_seven_parts(self):
        wires = list(zip("abcdefgh", [2] * 8))
        parts = [("p" + out, [("sum", out, "a", into), ("same", "a", "a")]) for into, out in zip("abcdefg", "bcdefgh")]
        work = Work(wires, parts)
        lot = (0, 1, 2, 3, 4, 5, 6)
        for looks in ([("is", "a", 1), ("is", "h", 0)], [("is", "h", 1)], [("isnt", "a", 0), ("is", "d", 1)]):
            self.papers((wires, parts, lot, looks), refuted(work, lot, looks))
            for value in (0, 1):
                self.papers((wires, parts, lot, looks), follows(work, lot, looks, ("e", value)), ("e", value))

    def test_2048_worlds(self):
        wires = list(zip("abcdef", [4, 4, 4, 4, 4, 2]))
        parts = [("p", [("rows", tuple("fedcba"), ((1, 3, 3, 3, 3, 3),))]), ("q", [("fixed", "a", 0)])]
        for lot in ((0,), (0, 1)):
            self.papers((wires, parts, lot, []), refuted(Work(wires, parts), lot, []))

    def test_no_paper_of_the_other_kind_is_let_by(self):
        # All trees, of some leaves, by two wires: one is right just where there is no world.
        wires = [("a", 2), ("b", 2)]
        parts = [("p", [("same", "a", "b")]), ("q", [("fixed", "a", 1)])]
        work = Work(wires, parts)
        leaves = [("tie", 0, 0), ("tie", 1, 0), ("look", 0), ("aim",)]

        def trees(names):
            found = list(leaves)
            for name in names:
                inner = trees([other for other in names if other != name])
                found += [("cases", name, list(pair)) for pair in itertools.product(inner, repeat=2)]
            return found

        every = trees(["a", "b"])
        for lot in ((), (0,), (1,), (0, 1)):
            for looks in ([("is", "b", 0)], [("isnt", "a", 0)], []):
                for goal in (None, ("a", 1), ("b", 0)):
                    worlds = all_worlds(work, lot, looks + ([("isnt", *goal)] if goal else []))
                    let_by = [tree for tree in every if is_tree(work, lot, looks, tree, goal=goal)]
                    self.assertEqual(bool(let_by), not worlds, (lot, looks, goal))


class Refused(unittest.TestCase):
    def refused(self, error, fields, call, *told, **more):
        with self.assertRaises(error) as caught:
            call(*told, **more)
        self.assertIs(caught.exception.__class__, error)
        self.assertEqual(fields_of(caught.exception), fields, (told, more))

    def doors(self, lot, looks, aim=("a", 0)):
        """Each call with a lot and looks."""
        return [
            (is_tree, (WORK, lot, looks, None), {}), (is_tree, (WORK, lot, looks, TREE), {"goal": aim}),
            (refuted, (WORK, lot, looks), {}), (follows, (WORK, lot, looks, aim), {})]

    def test_no_work(self):
        for thing in odd_things() + [GATES, Work, repr(WORK), (WORK,), [WORK]]:
            for call, told, more in self.doors(None, None, None):
                self.refused(NoWork, {"part": "work", "number": None, "tie": None}, call, thing, *told[1:], **more)

    def test_no_lot(self):
        for thing in odd_things() + [[], [0], 0, (2,), (0, 0), (1, 0), (0, 1, 1), (0, 2), (0, None), ("0",)]:
            number = None
            if isinstance(thing, tuple):
                number = len(thing) - 1
            for call, told, more in self.doors(thing, SEEN):
                self.refused(NoLot, {"number": number}, call, *told, **more)

    def test_no_looks(self):
        for thing in odd_things() + [(), (SEEN[0],), SEEN[0], None]:
            if not isinstance(thing, list):
                for call, told, more in self.doors((0,), thing):
                    self.refused(NoLook, {"number": None}, call, *told, **more)
        for thing in odd_things() + [("is", "x", 2), ("is", "z", 0), ("not", "x", 0), ["is", "x", 0], ("is", "x")]:
            for ahead in range(3):
                for call, told, more in self.doors((0,), SEEN * ahead + [thing, None]):
                    self.refused(NoLook, {"number": ahead}, call, *told, **more)

    def test_no_aim(self):
        wrong = odd_things() + [
            (), ("a",), ("a", 0, 0), ["a", 0], "a0", ("z", 0), ("inv", 0), (0, "a"), ("A", 0), ("a", "0"), ("is", "a", 0)]
        wrong += [("a", value) for value in odd_things() + [2, 3]]
        wrong += [(wire, 0) for wire in odd_things() + ["ab", 0, ["a"], ("a",)]]
        for thing in wrong:
            self.refused(NoAim, {}, follows, WORK, (0,), SEEN, thing)
            if thing is not None:
                self.refused(NoAim, {}, is_tree, WORK, (0,), SEEN, None, goal=thing)
                self.refused(NoAim, {}, is_tree, WORK, (0, 1), SEEN, TREE, goal=thing)
        work = Work(WIRES)
        for name, many in WIRES:
            self.assertEqual(follows(work, (), [], (name, many - 1))[0], "world")
            self.refused(NoAim, {}, follows, work, (), [], (name, many))
            self.refused(NoAim, {}, is_tree, work, (), [], None, goal=(name, many))

    def test_an_aim_is_looked_at_though_nothing_fits(self):
        self.refused(NoAim, {}, follows, WORK, (0, 1), SEEN, None)
        self.refused(NoAim, {}, follows, WORK, (), [("is", "a", 0), ("is", "a", 1)], ("a", 2))

    def test_which_goes_first(self):
        for call, told, more in self.doors((0, 0), None, ()):
            self.refused(NoLot, {"number": 1}, call, *told, **more)
        for call, told, more in self.doors((0,), [None], ()):
            self.refused(NoLook, {"number": 0}, call, *told, **more)

    def test_the_goal_by_its_name_alone(self):
        self.assertRaises(TypeError, is_tree, WORK, (1,), SEEN, AIMED, ("a", 1))


if __name__ == "__main__":
    unittest.main()
