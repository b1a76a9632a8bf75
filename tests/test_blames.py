"""[6.1]: broken lots and blames."""

import copy
import unittest

from leastblame.blames import blame_of, broken, is_blame
from leastblame.clashes import clashing, meeting
from leastblame.errors import NoLook, NoWork
from leastblame.works import Work

from helpers import WIRES, fields_of, odd_things, some_cases
from papers import CHAIN_PARTS, CHAIN_WIRES, GATES, PARTS, SEEN, TREE
from papers import bent, blame_judge, broken_slowly, clashing_slowly

WORK = Work(GATES, PARTS)

# Written by hand: both can't be sound; either of them may be the broken one.
BLAME = ([((0, 1), TREE)], [((0,), [1, 1, 1]), ((1,), [0, 1, 1])])

# Two clashing lots: a chain from a to d over b and c, with b seen between.
CHAIN = Work(CHAIN_WIRES, CHAIN_PARTS)
CHAIN_SEEN = [("is", "a", 0), ("is", "b", 1), ("is", "d", 0)]
CHAIN_BLAME = (
    [((0,), ("cases", "a", [("cases", "b", [("look", 1), ("tie", 0, 0)]), ("look", 0)])),
     ((1, 2), ("cases", "b", [("look", 1), ("cases", "d", [
         ("cases", "c", [("tie", 1, 0), ("tie", 2, 0)]), ("look", 2)])]))],
    [((0, 1), [0, 1, 0, 0]), ((0, 2), [0, 1, 1, 0])])


class Broken(unittest.TestCase):
    def test_by_hand(self):
        self.assertEqual(broken(WORK, []), [()])
        self.assertEqual(broken(WORK, SEEN), [(0,), (1,)])
        self.assertEqual(broken(WORK, [("is", "a", 1), ("is", "b", 1), ("is", "x", 0)]), [(0, 1)])
        self.assertEqual(broken(looks=CHAIN_SEEN, work=CHAIN), [(0, 1), (0, 2)])

    def test_looks_that_cannot_be_met(self):
        for work in (WORK, CHAIN, Work([("a", 2)])):
            self.assertEqual(broken(work, [("is", "a", 0), ("isnt", "a", 0)]), [])

    def test_no_parts(self):
        self.assertEqual(broken(Work(WIRES), []), [()])
        self.assertEqual(broken(Work(WIRES), [("is", "c", 3)]), [()])

    def test_sorted_by_how_many_parts_first(self):
        parts = [("p", [("fixed", "a", 0)]), ("q", [("fixed", "a", 0)]), ("r", [("fixed", "a", 1)])]
        self.assertEqual(broken(Work([("a", 2)], parts), []), [(2,), (0, 1)])

    def test_many_works(self):
        for wires, parts, looks in some_cases(200, seed=31):
            work = Work(wires, parts)
            told = broken(work, looks)
            self.assertEqual(told, broken_slowly(wires, parts, looks), (wires, parts, looks))
            self.assertEqual(told, meeting(work, clashing(work, looks)))
            self.assertTrue(told.__class__ is list and all(lot.__class__ is tuple for lot in told))

    def test_eight_wires_and_seven_parts(self):
        wires = list(zip("abcdefgh", [2] * 8))
        parts = [("p" + out, [("same", out, into)]) for into, out in zip("abcdefg", "bcdefgh")]
        looks = [("is", "a", 0), ("is", "d", 1), ("is", "h", 0)]
        self.assertEqual(broken(Work(wires, parts), looks), [(one, two) for one in (0, 1, 2) for two in (3, 4, 5, 6)])
        blame = blame_of(Work(wires, parts), looks)
        self.assertIs(is_blame(Work(wires, parts), looks, blame), True)
        self.assertIs(blame_judge(wires, parts, looks)(blame), True)


class BlameOf(unittest.TestCase):
    def told(self, wires, parts, looks):
        work = Work(wires, parts)
        blame = blame_of(work, looks)
        self.assertIs(blame.__class__, tuple)
        self.assertEqual([lot for lot, tree in blame[0]], clashing_slowly(wires, parts, looks))
        self.assertEqual([lot for lot, world in blame[1]], broken_slowly(wires, parts, looks))
        self.assertIs(blame_judge(wires, parts, looks)(blame), True)
        self.assertIs(is_blame(work, looks, blame), True)
        return blame

    def test_by_hand(self):
        self.told(GATES, PARTS, SEEN)
        self.told(CHAIN_WIRES, CHAIN_PARTS, CHAIN_SEEN)
        self.assertEqual(blame_of(work=WORK, looks=[]), ([], [((), [0, 1, 0])]))

    def test_looks_that_cannot_be_met(self):
        for work in (WORK, Work([("a", 2)])):
            looks = [("is", "a", 0), ("is", "a", 1)]
            clashes, worlds = self.told(work.wires(), work.parts(), looks)
            self.assertEqual(([lot for lot, tree in clashes], worlds), ([()], []))

    def test_no_parts(self):
        self.assertEqual(self.told(WIRES, [], [("is", "b", 2)]), ([], [((), [0, 2, 0, 0])]))

    def test_many_works(self):
        for wires, parts, looks in some_cases(120, seed=32):
            self.told(wires, parts, looks)


class IsBlame(unittest.TestCase):
    def right(self, thing, work=WORK, looks=SEEN):
        self.assertIs(is_blame(work, looks, thing), True, thing)

    def wrong(self, thing, work=WORK, looks=SEEN):
        self.assertIs(is_blame(work, looks, thing), False)

    def test_right_ones_by_hand(self):
        self.right(BLAME)
        self.right((BLAME[0], [((0,), [1, 1, 1]), ((1,), [1, 0, 1])]))
        self.right(CHAIN_BLAME, CHAIN, CHAIN_SEEN)
        self.right(([], [((), [0, 1, 0])]), WORK, [])
        self.right(([], [((), [1, 0, 0])]), WORK, [])
        self.right(([((), ("cases", "a", [("look", 1), ("look", 0)]))], []), WORK, [("is", "a", 0), ("is", "a", 1)])
        self.right(([], [((), [1])]), Work([("a", 2)]), [])
        self.assertIs(is_blame(thing=BLAME, looks=SEEN, work=WORK), True)

    def test_of_other_looks_and_works(self):
        self.wrong(BLAME, WORK, [])
        self.wrong(BLAME, WORK, [("is", "x", 0)])
        self.wrong(BLAME, WORK, SEEN + [("is", "a", 0)])
        self.wrong(BLAME, Work(GATES, PARTS[:1]))
        self.wrong(CHAIN_BLAME, CHAIN, CHAIN_SEEN[::-1])
        self.wrong(CHAIN_BLAME, WORK, SEEN)

    def test_a_lot_more(self):
        clashes, worlds = CHAIN_BLAME
        more = ((0, 1), clashes[0][1])
        for bad in ([clashes[0], more, clashes[1]], [more, *clashes], [*clashes, more], [clashes[0], clashes[0], clashes[1]],
                    [*clashes, ((0, 1, 2), clashes[1][1])], [*clashes, clashes[1]], [((), clashes[0][1]), *clashes]):
            self.wrong((bad, worlds), CHAIN, CHAIN_SEEN)
        for bad in ([*worlds, ((0, 1, 2), [0, 1, 0, 0])], [*worlds, worlds[1]], [worlds[0], worlds[0], worlds[1]],
                    [((0,), [0, 1, 0, 0]), *worlds]):
            self.wrong((clashes, bad), CHAIN, CHAIN_SEEN)

    def test_a_lot_fewer(self):
        clashes, worlds = CHAIN_BLAME
        for at in (0, 1):
            self.wrong((clashes[:at] + clashes[at + 1:], worlds), CHAIN, CHAIN_SEEN)
            self.wrong((clashes, worlds[:at] + worlds[at + 1:]), CHAIN, CHAIN_SEEN)
        self.wrong(([], worlds), CHAIN, CHAIN_SEEN)
        self.wrong((clashes, []), CHAIN, CHAIN_SEEN)
        self.wrong(([], []), CHAIN, CHAIN_SEEN)
        # Fewer on both sides: the worlds' lots are just those that meet the clash left, but no world fits them.
        self.wrong((clashes[:1], [((0,), [0, 1, 0, 0])]), CHAIN, CHAIN_SEEN)
        self.wrong((clashes[1:], [((1,), [0, 1, 0, 0]), ((2,), [0, 1, 1, 0])]), CHAIN, CHAIN_SEEN)
        self.wrong(([], [((), [0, 1, 0, 0])]), CHAIN, CHAIN_SEEN)

    def test_a_greater_or_lesser_lot(self):
        clashes, worlds = CHAIN_BLAME
        tree = clashes[0][1]
        for lot in [(), (0, 1), (0, 2), (0, 1, 2), (1,), (2,)]:
            self.wrong(([(lot, tree), clashes[1]], worlds), CHAIN, CHAIN_SEEN)
        for lot in [(), (1,), (2,), (0, 1, 2), (0, 1), (0, 2)]:
            self.wrong(([clashes[0], (lot, clashes[1][1])], worlds), CHAIN, CHAIN_SEEN)
        # A greater clashing lot, and just what meets it: its tree is right, but the worlds aren't there.
        self.wrong(([((0, 1), tree)], [((0,), [0, 1, 1, 1]), ((1,), [0, 0, 0, 0])]), CHAIN, CHAIN_SEEN)
        for at, world in [(0, [0, 1, 0, 0]), (1, [0, 1, 1, 0])]:
            for lot in [(), (0,), (1,), (2,), (1, 2), (0, 1, 2)]:
                bad = list(worlds)
                bad[at] = (lot, world)
                self.wrong((clashes, bad), CHAIN, CHAIN_SEEN)

    def test_turned_about(self):
        clashes, worlds = CHAIN_BLAME
        self.wrong((clashes[::-1], worlds), CHAIN, CHAIN_SEEN)
        self.wrong((clashes, worlds[::-1]), CHAIN, CHAIN_SEEN)
        self.wrong((worlds, clashes), CHAIN, CHAIN_SEEN)
        self.wrong((clashes, [(world, lot) for lot, world in worlds]), CHAIN, CHAIN_SEEN)
        self.wrong(([(tree, lot) for lot, tree in clashes], worlds), CHAIN, CHAIN_SEEN)
        self.wrong((clashes, [((1, 0), worlds[0][1]), worlds[1]]), CHAIN, CHAIN_SEEN)
        self.wrong(([clashes[0], ((2, 1), clashes[1][1])], worlds), CHAIN, CHAIN_SEEN)

    def test_other_kinds_in_their_place(self):
        clashes, worlds = BLAME
        for thing in [[clashes, worlds], (clashes, worlds, []), (clashes,), (tuple(clashes), worlds), (clashes, tuple(worlds)),
                      (clashes, dict(worlds)), ([[(0, 1), TREE]], worlds), (clashes, [[(0,), [1, 1, 1]], worlds[1]]),
                      ([([0, 1], TREE)], worlds), (clashes, [([0], [1, 1, 1]), worlds[1]]), ([((0, 1), list(TREE))], worlds),
                      (clashes, [((0,), (1, 1, 1)), worlds[1]]), ([((0, 1), TREE, TREE)], worlds),
                      (clashes, [((0,), [1, 1, 1], [1, 1, 1]), worlds[1]]), (clashes, [((0,),), worlds[1]]),
                      ([((0, True), TREE)], worlds), ([((False, 1), TREE)], worlds), ([((0.0, 1.0), TREE)], worlds),
                      (clashes, [((False,), [1, 1, 1]), worlds[1]]), (clashes, [worlds[0], ((True,), [0, 1, 1])]),
                      (clashes, [((0.0,), [1, 1, 1]), worlds[1]]), (clashes, [((0,), [True, 1, 1]), worlds[1]]),
                      (clashes, [((0,), [1.0, 1, 1]), worlds[1]]), ("clashes", BLAME), (BLAME,)]:
            self.wrong(thing)
        for thing in odd_things():
            self.wrong(thing)
            self.wrong((thing, worlds))
            self.wrong((clashes, thing))
            self.wrong(([thing], worlds))
            self.wrong((clashes, [thing, worlds[1]]))
            self.wrong(([((0, 1), thing)], worlds))
            self.wrong((clashes, [((0,), thing), worlds[1]]))
            self.wrong((clashes, [((thing,), [1, 1, 1]), worlds[1]]))

    def test_worlds_that_do_not_fit(self):
        clashes, worlds = CHAIN_BLAME
        for at in (0, 1):
            # Part 2 is outside the first lot, part 1 outside the second.
            right = [[0, 1, 0, 0]] if at == 0 else [[0, 1, 1, 0]]
            for number in range(16):
                world = [number >> 3 & 1, number >> 2 & 1, number >> 1 & 1, number & 1]
                bad = list(worlds)
                bad[at] = (worlds[at][0], world)
                self.assertIs(is_blame(CHAIN, CHAIN_SEEN, (clashes, bad)), world in right)
            for world in ([], [0, 1, 0], [0, 1, 0, 0, 0], [0, 1, 0, 2], [0, 1, 0, -1], None, (0, 1, 0, 0)):
                bad = list(worlds)
                bad[at] = (worlds[at][0], world)
                self.wrong((clashes, bad), CHAIN, CHAIN_SEEN)

    def test_a_tree_by_an_aim_is_none(self):
        tree = ("cases", "x", [("look", 0), ("cases", "a", [("tie", 1, 0), ("aim",)])])
        self.wrong(([((0, 1), tree)], BLAME[1]))

    def test_bent_at_one_place(self):
        for wires, parts, looks, blame in [
                (GATES, PARTS, SEEN, BLAME), (CHAIN_WIRES, CHAIN_PARTS, CHAIN_SEEN, CHAIN_BLAME),
                (GATES, PARTS, [], ([], [((), [0, 1, 0])])),
                (GATES, PARTS, [("is", "a", 0), ("is", "a", 1)],
                 ([((), ("cases", "a", [("look", 1), ("look", 0)]))], []))]:
            work = Work(wires, parts)
            self.right(blame, work, looks)
            let_by = tried = 0
            judge = blame_judge(wires, parts, looks)
            for thing in bent(blame):
                right = judge(thing)
                self.assertIs(is_blame(work, looks, thing), right, thing if right else None)
                let_by += right
                tried += 1
            self.assertLess(let_by * 100, tried)

    def test_told_ones_bent_at_one_place(self):
        for wires, parts, looks in some_cases(25, seed=33):
            if len(wires) > 5:
                continue
            work, judge = Work(wires, parts), blame_judge(wires, parts, looks)
            for thing in list(bent(blame_of(work, looks), odd=False))[::3]:
                self.assertIs(is_blame(work, looks, thing), judge(thing))

    def test_papers_handed_in_stay_as_they_were(self):
        for blame in (BLAME, (BLAME[0], BLAME[1][::-1])):
            before = copy.deepcopy(blame)
            is_blame(WORK, SEEN, blame)
            self.assertEqual(blame, before)


class Refused(unittest.TestCase):
    def test_no_work(self):
        for thing in odd_things() + [GATES, Work, repr(WORK), (WORK,)]:
            for call in (broken, blame_of, lambda work, looks: is_blame(work, looks, BLAME)):
                with self.assertRaises(NoWork) as caught:
                    call(thing, None)
                self.assertEqual(fields_of(caught.exception), {"part": "work", "number": None, "tie": None})

    def refused(self, number, looks):
        for call in (broken, blame_of, lambda *told: is_blame(*told, BLAME), lambda *told: is_blame(*told, None)):
            with self.assertRaises(NoLook) as caught:
                call(WORK, looks)
            self.assertEqual(fields_of(caught.exception), {"number": number}, looks)

    def test_no_looks(self):
        for thing in odd_things() + [(), SEEN[0], tuple(SEEN)]:
            if not isinstance(thing, list):
                self.refused(None, thing)
        for thing in odd_things() + [list(SEEN[0]), ("is", "x", 2), ("is", "inv", 0), ("was", "x", 0), ("is", "x", 0, 0)]:
            self.refused(0, [thing])
            self.refused(2, SEEN * 2 + [thing, None])


if __name__ == "__main__":
    unittest.main()
