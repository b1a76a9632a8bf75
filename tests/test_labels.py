"""[7.1] and [7.2]: lots of worths and labels."""

import copy
import unittest

from leastblame.clashes import clashing
from leastblame.errors import NoAim, NoLook, NoWire, NoWork
from leastblame.labels import is_label, label_of, label_row, lots_of
from leastblame.works import Work

from helpers import WIRES, fields_of, odd_things, some_cases
from papers import CHAIN_PARTS, CHAIN_WIRES, bent, label_judge, lots_of_slowly

CHAIN = Work(CHAIN_WIRES, CHAIN_PARTS)

# Written by hand: both ends are 0; b is 0 by the part beside one end, and by the two parts beside the other.
ENDS = [("is", "a", 0), ("is", "d", 0)]
ENDS_AIM = ("b", 0)
ENDS_LABEL = (
    [((0,), ("cases", "b", [("aim",), ("cases", "a", [("tie", 0, 0), ("look", 0)])]), [0, 0, 1, 0]),
     ((1, 2), ("cases", "b", [("aim",), ("cases", "c", [
         ("tie", 1, 0), ("cases", "d", [("tie", 2, 0), ("look", 1)])])]), [0, 0, 0, 0])],
    [],
    [((0, 1), [0, 1, 0, 0]), ((0, 2), [0, 1, 1, 0])])

# Written by hand: (0,) and (1, 2) clash; c is 0 by (2,), which the second of them holds.
SEEN = [("is", "a", 0), ("is", "b", 1), ("is", "d", 0)]
SEEN_AIM = ("c", 0)
REFUTED = ("cases", "a", [("cases", "b", [("look", 1), ("tie", 0, 0)]), ("look", 0)])
SHOWN = ("cases", "c", [("aim",), ("cases", "d", [("tie", 2, 0), ("look", 2)])])
SEEN_LABEL = ([((2,), SHOWN, [0, 1, 0, 0])], [((0,), REFUTED)], [((0, 2), [0, 1, 1, 0])])

HAND = [(ENDS, ENDS_AIM, ENDS_LABEL), (SEEN, SEEN_AIM, SEEN_LABEL)]


class LotsOf(unittest.TestCase):
    def test_by_hand(self):
        self.assertEqual(lots_of(CHAIN, ENDS, ("b", 0)), [(0,), (1, 2)])
        self.assertEqual(lots_of(CHAIN, ENDS, ("c", 0)), [(2,), (0, 1)])
        self.assertEqual(lots_of(CHAIN, ENDS, ("c", 1)), [])
        self.assertEqual(lots_of(CHAIN, ENDS, ("a", 0)), [()])
        self.assertEqual(lots_of(CHAIN, ENDS, ("a", 1)), [])
        self.assertEqual(lots_of(CHAIN, [], ("a", 1)), [])
        self.assertEqual(lots_of(aim=("c", 0), looks=SEEN, work=CHAIN), [(2,)])
        self.assertEqual(lots_of(CHAIN, SEEN, ("c", 1)), [(1,)])
        self.assertEqual(lots_of(CHAIN, SEEN, ("b", 1)), [()])

    def test_lots_that_clash_are_left_out(self):
        # By the clashing lot all follows: it would be told of each value of d.
        looks = [("is", "b", 1), ("is", "c", 0)]
        self.assertEqual(clashing(CHAIN, looks), [(1,)])
        self.assertEqual(lots_of(CHAIN, looks, ("d", 0)), [(2,)])
        self.assertEqual(lots_of(CHAIN, looks, ("d", 1)), [])

    def test_looks_that_cannot_be_met(self):
        looks = [("is", "a", 0), ("is", "a", 1)]
        for work in (CHAIN, Work([("a", 2), ("b", 3)])):
            for name, many in work.wires():
                self.assertEqual(label_row(work, looks, name), [[] for value in range(many)])

    def test_no_parts(self):
        work = Work(WIRES)
        self.assertEqual(label_row(work, [], "b"), [[], [], []])
        self.assertEqual(label_row(work, [("is", "b", 1)], "b"), [[], [()], []])
        self.assertEqual(label_row(work, [("isnt", "b", 1), ("isnt", "b", 0)], "b"), [[], [], [()]])
        self.assertEqual(label_row(work, [("is", "b", 1)], "c"), [[], [], [], []])

    def test_a_part_that_is_never_sound(self):
        work = Work([("a", 2)], [("p", [("rows", ("a",), ())]), ("q", [("fixed", "a", 1)])])
        self.assertEqual(label_row(work, [], "a"), [[], [(1,)]])

    def test_sorted_by_how_many_parts_first(self):
        parts = [("p", [("same", "b", "c")]), ("q", [("fixed", "c", 1)]), ("r", [("fixed", "b", 1)]),
                 ("s", [("fixed", "c", 0)]), ("t", [("fixed", "b", 0)])]
        work = Work([("b", 2), ("c", 2)], parts)
        self.assertEqual(label_row(work, [], "b"), [[(4,), (0, 3)], [(2,), (0, 1)]])
        self.assertEqual(label_row(work, [], "c"), [[(3,), (0, 4)], [(1,), (0, 2)]])

    def test_rows(self):
        self.assertEqual(label_row(CHAIN, ENDS, "b"), [[(0,), (1, 2)], []])
        self.assertEqual(label_row(looks=SEEN, wire="c", work=CHAIN), [[(2,)], [(1,)]])

    def test_eight_wires_and_seven_parts(self):
        wires = list(zip("abcdefgh", [2] * 8))
        parts = [("p" + out, [("same", out, into)]) for into, out in zip("abcdefg", "bcdefgh")]
        work = Work(wires, parts)
        looks = [("is", "a", 0), ("is", "h", 1)]
        self.assertEqual(label_row(work, looks, "d"), [[(0, 1, 2)], [(3, 4, 5, 6)]])
        self.assertEqual(label_row(work, looks, "h"), [[], [()]])
        for aim in [("d", 0), ("d", 1), ("a", 1)]:
            label = label_of(work, looks, aim)
            self.assertIs(is_label(work, looks, aim, label), True)
            self.assertIs(label_judge(wires, parts, looks, aim)(label), True)

    def test_many_works(self):
        for wires, parts, looks in some_cases(90, seed=41):
            work = Work(wires, parts)
            for name, many in wires:
                row = [lots_of_slowly(wires, parts, looks, (name, value)) for value in range(many)]
                self.assertEqual(label_row(work, looks, name), row, (wires, parts, looks, name))
                self.assertEqual([lots_of(work, looks, (name, value)) for value in range(many)], row)


class LabelOf(unittest.TestCase):
    def told(self, wires, parts, looks, aim):
        work = Work(wires, parts)
        label = label_of(work, looks, aim)
        self.assertIs(label.__class__, tuple)
        self.assertEqual([lot for lot, tree, world in label[0]], lots_of_slowly(wires, parts, looks, aim))
        self.assertIs(label_judge(wires, parts, looks, aim)(label), True, (wires, parts, looks, aim))
        self.assertIs(is_label(work, looks, aim, label), True)
        return label

    def test_by_hand(self):
        for looks, aim, label in HAND:
            told = self.told(CHAIN_WIRES, CHAIN_PARTS, looks, aim)
            for rows, right in zip(told, label):
                self.assertEqual([row[0] for row in rows], [row[0] for row in right])
        self.assertEqual(label_of(work=CHAIN, looks=[], aim=("a", 0)), ([], [], [((), [1, 1, 1, 1])]))

    def test_looks_that_cannot_be_met(self):
        looks = [("is", "a", 0), ("is", "a", 1)]
        for work in (CHAIN, Work([("a", 2), ("b", 3)])):
            for aim in (("a", 0), ("b", 1)):
                lots, clashes, worlds = self.told(work.wires(), work.parts(), looks, aim)
                self.assertEqual((lots, [lot for lot, tree in clashes], worlds), ([], [()], []))

    def test_no_parts(self):
        self.assertEqual(self.told(WIRES, [], [("is", "b", 2)], ("a", 0)), ([], [], [((), [1, 2, 0, 0])]))
        lots, clashes, worlds = self.told(WIRES, [], [("is", "b", 2)], ("b", 2))
        self.assertEqual(([row[0] for row in lots], clashes, worlds), ([()], [], []))

    def test_many_works(self):
        for wires, parts, looks in some_cases(60, seed=42):
            for name, many in wires[::2]:
                for value in range(many):
                    self.told(wires, parts, looks, (name, value))


class IsLabel(unittest.TestCase):
    def wrong(self, looks, aim, thing, work=CHAIN):
        self.assertIs(is_label(work, looks, aim, thing), False)

    def test_right_ones_by_hand(self):
        for looks, aim, label in HAND:
            self.assertIs(is_label(CHAIN, looks, aim, label), True)
        self.assertIs(is_label(thing=SEEN_LABEL, aim=SEEN_AIM, looks=SEEN, work=CHAIN), True)
        self.assertIs(is_label(CHAIN, [], ("a", 0), ([], [], [((), [1, 1, 1, 1])])), True)
        looks = [("is", "a", 0), ("is", "a", 1)]
        refuted = ("cases", "a", [("look", 1), ("look", 0)])
        self.assertIs(is_label(CHAIN, looks, ("b", 0), ([], [((), refuted)], [])), True)
        seen = ("cases", "a", [("aim",), ("look", 0)])
        self.assertIs(is_label(CHAIN, ENDS, ("a", 0), ([((), seen, [0, 1, 0, 0])], [], [])), True)

    def test_of_other_looks_aims_and_works(self):
        for looks, aim, label in HAND:
            for name in "abcd":
                for value in (0, 1):
                    self.assertIs(is_label(CHAIN, looks, (name, value), label), (name, value) == aim)
            self.wrong([], aim, label)
            self.wrong(looks[:-1], aim, label)
            self.wrong(looks[::-1], aim, label)
            self.wrong(looks, aim, label, Work(CHAIN_WIRES, CHAIN_PARTS[:2]))
            self.wrong(looks, aim, label, Work(CHAIN_WIRES))

    def test_a_clashing_lot_that_holds_a_lot(self):
        # It clashes, and its tree is right; but it holds (2,), that is told as a lot.
        tree = ("cases", "b", [("look", 1), ("cases", "c", [("tie", 1, 0), ("cases", "d", [("tie", 2, 0), ("look", 2)])])])
        lots, clashes, worlds = SEEN_LABEL
        for bad in ([*clashes, ((1, 2), tree)], [((1, 2), tree), *clashes], [((1, 2), tree)]):
            self.wrong(SEEN, SEEN_AIM, (lots, bad, worlds))

    def test_a_lot_within_another_one(self):
        lots, clashes, worlds = ENDS_LABEL
        tree, world = lots[0][1:]
        for lot in [(0,), (0, 1), (0, 2), (0, 1, 2)]:
            self.wrong(ENDS, ENDS_AIM, ([lots[0], (lot, tree, [0, 0, 0, 0]), lots[1]], clashes, worlds))
            self.wrong(ENDS, ENDS_AIM, ([*lots, (lot, tree, [0, 0, 0, 0])], clashes, worlds))
        lots, clashes, worlds = SEEN_LABEL
        for lot in [(1, 2), (2,)]:
            self.wrong(SEEN, SEEN_AIM, ([*lots, (lot, SHOWN, [0, 1, 0, 0])], clashes, worlds))
        for lot in [(0,), (0, 1), (0, 2), (0, 1, 2)]:
            self.wrong(SEEN, SEEN_AIM, (lots, [*clashes, (lot, REFUTED)], worlds))

    def test_a_lot_more_or_fewer(self):
        for looks, aim, label in HAND:
            for place in range(3):
                for at in range(len(label[place])):
                    for rows in (label[place][:at] + label[place][at + 1:], label[place] + label[place][at:at + 1],
                                 label[place][:at] + label[place][at:at + 1] + label[place][at:]):
                        bad = list(label)
                        bad[place] = rows
                        self.wrong(looks, aim, tuple(bad))
        lots, clashes, worlds = ENDS_LABEL
        # Fewer on both sides: the worlds' lots are just those that meet the lot left, but no world fits them all.
        self.wrong(ENDS, ENDS_AIM, (lots[:1], [], [((0,), [0, 1, 0, 0])]))
        self.wrong(ENDS, ENDS_AIM, (lots[1:], [], [((1,), [0, 1, 0, 0]), ((2,), [0, 1, 1, 0])]))
        self.wrong(ENDS, ENDS_AIM, ([], [], [((), [0, 1, 1, 0])]))
        lots, clashes, worlds = SEEN_LABEL
        self.wrong(SEEN, SEEN_AIM, (lots, [], [((2,), [0, 1, 1, 0])]))
        self.wrong(SEEN, SEEN_AIM, ([], clashes, [((0,), [0, 1, 1, 0])]))

    def test_a_clashing_lot_told_as_a_lot(self):
        lots, clashes, worlds = SEEN_LABEL
        for world in ([0, 1, 0, 0], [0, 0, 0, 0], [1, 1, 0, 0], None):
            self.wrong(SEEN, SEEN_AIM, ([((0,), REFUTED, world), *lots], [], worlds))
        self.wrong(SEEN, SEEN_AIM, ([], [*clashes, ((2,), SHOWN)], worlds))

    def test_turned_about(self):
        lots, clashes, worlds = ENDS_LABEL
        for bad in [(lots[::-1], clashes, worlds), (lots, clashes, worlds[::-1]), (clashes, lots, worlds),
                    (worlds, clashes, lots), (lots, worlds, clashes), (lots, clashes), (lots, worlds),
                    (lots, clashes, worlds, []), [lots, clashes, worlds], (tuple(lots), clashes, worlds),
                    (lots, tuple(clashes), worlds), (lots, clashes, tuple(worlds)),
                    ([list(row) for row in lots], clashes, worlds), (lots, clashes, [list(row) for row in worlds]),
                    ([(lot, world, tree) for lot, tree, world in lots], clashes, worlds),
                    ([(list(lot), tree, world) for lot, tree, world in lots], clashes, worlds),
                    ([(lot, tree, tuple(world)) for lot, tree, world in lots], clashes, worlds),
                    ([(lot, tree) for lot, tree, world in lots], clashes, worlds),
                    (lots, clashes, [(lot, tuple(world)) for lot, world in worlds]),
                    (lots, clashes, [(lot, world, world) for lot, world in worlds]),
                    ([((False,), *lots[0][1:]), lots[1]], clashes, worlds),
                    ([((0.0,), *lots[0][1:]), lots[1]], clashes, worlds),
                    (lots, clashes, [((0, True), worlds[0][1]), worlds[1]]),
                    ([(*lots[0][:2], [0, 0, True, 0]), lots[1]], clashes, worlds),
                    ([lots[0], ((2, 1), *lots[1][1:])], clashes, worlds)]:
            self.wrong(ENDS, ENDS_AIM, bad)

    def test_worlds_of_lots(self):
        # The world has the lot sound and meets the looks.
        lots, clashes, worlds = ENDS_LABEL
        for at, right in [(0, [[0, 0, 0, 0], [0, 0, 1, 0]]), (1, [[0, 0, 0, 0]])]:
            for number in range(16):
                world = [number >> 3 & 1, number >> 2 & 1, number >> 1 & 1, number & 1]
                bad = list(lots)
                bad[at] = (*lots[at][:2], world)
                self.assertIs(is_label(CHAIN, ENDS, ENDS_AIM, (bad, clashes, worlds)), world in right)

    def test_worlds_outside(self):
        # All parts outside are sound in it, it meets the looks, and has another value of the wire.
        lots, clashes, worlds = ENDS_LABEL
        for at, right in [(0, [0, 1, 0, 0]), (1, [0, 1, 1, 0])]:
            for number in range(16):
                world = [number >> 3 & 1, number >> 2 & 1, number >> 1 & 1, number & 1]
                bad = list(worlds)
                bad[at] = (worlds[at][0], world)
                self.assertIs(is_label(CHAIN, ENDS, ENDS_AIM, (lots, clashes, bad)), world == right)

    def test_trees(self):
        lots, clashes, worlds = SEEN_LABEL
        # A lot's tree may do without the aim's leaf only where the lot clashes; a clash's tree has no such leaf.
        for tree in [REFUTED, SHOWN[2][0], ("cases", "c", [("tie", 2, 0), SHOWN[2][1]]), ENDS_LABEL[0][0][1]]:
            self.wrong(SEEN, SEEN_AIM, ([((2,), tree, [0, 1, 0, 0])], clashes, worlds))
        for tree in [SHOWN, ("aim",), ("cases", "c", [("aim",), REFUTED])]:
            self.wrong(SEEN, SEEN_AIM, (lots, [((0,), tree)], worlds))
        self.assertIs(is_label(CHAIN, SEEN, SEEN_AIM, (lots, [((0,), ("cases", "c", [REFUTED, REFUTED]))], worlds)), True)

    def test_things_of_every_other_kind(self):
        lots, clashes, worlds = SEEN_LABEL
        for thing in odd_things() + [SEEN_LABEL[:2], (SEEN_LABEL,), CHAIN, "label"]:
            for bad in [thing, (thing, clashes, worlds), (lots, thing, worlds), (lots, clashes, thing),
                        ([thing], clashes, worlds), (lots, [thing], worlds), (lots, clashes, [thing]),
                        ([((thing,), *lots[0][1:])], clashes, worlds), ([((2,), thing, [0, 1, 0, 0])], clashes, worlds),
                        ([((2,), SHOWN, thing)], clashes, worlds), (lots, [(thing, REFUTED)], worlds),
                        (lots, [((0,), thing)], worlds), (lots, clashes, [((0, 2), thing)]),
                        (lots, clashes, [((0, thing), [0, 1, 1, 0])]), (lots, clashes, [((0, 2), [0, thing, 1, 0])])]:
                self.wrong(SEEN, SEEN_AIM, bad)

    def test_bent_at_one_place(self):
        for looks, aim, label in HAND:
            judge = label_judge(CHAIN_WIRES, CHAIN_PARTS, looks, aim)
            let_by = tried = 0
            for thing in bent(label):
                right = judge(thing)
                self.assertIs(is_label(CHAIN, looks, aim, thing), right)
                let_by += right
                tried += 1
            self.assertLess(let_by * 100, tried)

    def test_told_ones_bent_at_one_place(self):
        for wires, parts, looks in some_cases(40, seed=43):
            if len(wires) > 5:
                continue
            work, (name, many) = Work(wires, parts), wires[-1]
            judge = label_judge(wires, parts, looks, (name, many - 1))
            for thing in list(bent(label_of(work, looks, (name, many - 1)), odd=False))[::3]:
                self.assertIs(is_label(work, looks, (name, many - 1), thing), judge(thing))

    def test_papers_handed_in_stay_as_they_were(self):
        for looks, aim, label in HAND:
            for thing in (label, (label[0], label[1], label[2][::-1])):
                before = copy.deepcopy((looks, aim, thing))
                is_label(CHAIN, looks, aim, thing)
                self.assertEqual((looks, aim, thing), before)


def doors(looks, aim):
    """Each call with looks and an aim, or the aim's wire."""
    return [
        lambda work: lots_of(work, looks, aim), lambda work: label_of(work, looks, aim),
        lambda work: is_label(work, looks, aim, SEEN_LABEL), lambda work: is_label(work, looks, aim, None)]


class Refused(unittest.TestCase):
    def refused(self, error, fields, calls, work=CHAIN):
        for call in calls:
            with self.assertRaises(error) as caught:
                call(work)
            self.assertIs(caught.exception.__class__, error)
            self.assertEqual(fields_of(caught.exception), fields)

    def test_no_work(self):
        fields = {"part": "work", "number": None, "tie": None}
        for thing in odd_things() + [CHAIN_WIRES, Work, repr(CHAIN), (CHAIN,)]:
            self.refused(NoWork, fields, doors(None, None) + [lambda work: label_row(work, None, None)], thing)

    def test_no_looks(self):
        for thing in odd_things() + [(), SEEN[0], tuple(SEEN)]:
            if not isinstance(thing, list):
                for aim in (SEEN_AIM, None):
                    self.refused(NoLook, {"number": None}, doors(thing, aim) + [lambda work: label_row(work, thing, aim)])
        for thing in odd_things() + [list(SEEN[0]), ("is", "a", 2), ("is", "p", 0), ("was", "a", 0), ("is", "a", 0, 0)]:
            for aim in (SEEN_AIM, None):
                calls = doors([SEEN[0], thing], aim) + [lambda work: label_row(work, [SEEN[0], thing], aim)]
                self.refused(NoLook, {"number": 1}, calls)

    def test_no_aim(self):
        wrong = odd_things() + [(), ("a",), ("a", 0, 0), ["a", 0], "a0", ("z", 0), ("p", 0), (0, "a"), ("a", "0"), ("A", 0)]
        wrong += [("a", value) for value in odd_things() + [2, 3]]
        wrong += [(wire, 0) for wire in odd_things() + ["ab", 0, ["a"], ("a",)]]
        for thing in wrong:
            self.refused(NoAim, {}, doors(SEEN, thing))
        self.refused(NoAim, {}, doors([("is", "a", 0), ("is", "a", 1)], None))

    def test_no_wire(self):
        for thing in odd_things() + ["z", "p", "ab", "A", 0, ["a"], ("a",), ("a", 0)]:
            with self.assertRaises(NoWire) as caught:
                label_row(CHAIN, SEEN, thing)
            self.assertEqual(list(fields_of(caught.exception)), ["name"])
            self.assertIs(caught.exception.name, thing)


if __name__ == "__main__":
    unittest.main()
