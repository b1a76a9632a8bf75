"""[9.3]: foes, trees of answers by which no plan needs so few looks."""

import copy
import itertools
import random
import unittest

from leastblame.errors import NoLook, NoNumber, NoWires, NoWork
from leastblame.foes import foe_of, is_foe
from leastblame.plans import worst_plan
from leastblame.works import Work

from helpers import WIRES, Refusing, fields_of, odd_things, some_cases
from papers import bent
from planning import FOUR, ROW, ROW_PARTS, ROW_SEEN, ROW_WIRES, UNMET, WRONG_OPEN
from planning import Asked, odd_or_even, row_of, some_faults

FIRST, SECOND, THIRD = ((0,), [0, 1, 1, 1]), ((1,), [0, 0, 1, 1]), ((2,), [0, 0, 0, 1])

# Written by hand: whichever of b and c is looked at, two of the three parts in a row are left.
FOE = ("foe", [("b", 0, ("pair", SECOND, THIRD)), ("c", 1, ("pair", FIRST, SECOND))])

# Two of the values of each wire leave unlike lots, whatever is looked at first.
SUM_WIRES, SUM_PARTS = odd_or_even((3, 2))
SUM_FOE = ("foe", [("a", 2, ("pair", ((1,), [2, 0]), ((0,), [2, 1]))), ("b", 1, ("pair", ((0,), [0, 1]), ((1,), [1, 1])))])

# Right foes written by hand: (wires, parts, looks, open wires, number, foe).
HAND = [
    (ROW_WIRES, ROW_PARTS, ROW_SEEN, ["b", "c"], 1, FOE),
    (ROW_WIRES, ROW_PARTS, ROW_SEEN, ["b", "c"], 0, ("pair", FIRST, THIRD)),
    (ROW_WIRES, ROW_PARTS, ROW_SEEN, ["b", "c"], 0, ("pair", THIRD, SECOND)),
    (ROW_WIRES, ROW_PARTS, ROW_SEEN, ["b"], 0, ("pair", THIRD, FIRST)),
    # A look at a tells nothing: the foe answers all the same.
    (ROW_WIRES, ROW_PARTS, ROW_SEEN, ["a", "b", "c"], 1, ("foe", [("a", 0, ("pair", FIRST, THIRD)), *FOE[1]])),
    (SUM_WIRES, SUM_PARTS, [], ["a", "b"], 1, SUM_FOE),
    (FOUR.wires(), FOUR.parts(), [], ["x"], 0, ("pair", ((3,), [3]), ((0,), [0]))),
]


def faulty(many, seed):
    """Works with looks and open wires."""
    chance = random.Random(seed)
    found = []
    for wires, parts, looks in some_cases(many // 3, seed) + some_faults(chance, many):
        names = [name for name, size in wires]
        found.append((wires, parts, looks, sorted(chance.sample(names, chance.randint(0, min(4, len(names)))))))
    return found


def all_foes(asked, number, rows=None, left=None):
    """All foes for the number, however many."""
    rows = asked.rows if rows is None else rows
    left = asked.open_wires if left is None else left
    if number == 0:
        return [("pair", one, other) for one in rows for other in rows if asked.is_pair(rows, one, other)]
    answers = []
    for wire in left:
        rest = [other for other in left if other != wire]
        answers.append([(wire, value, foe) for value in asked.values(rows, wire)
                        for foe in all_foes(asked, number - 1, asked.with_value(rows, wire, value), rest)])
    return [("foe", list(some)) for some in itertools.product(*answers)] if left else []


class FoeOf(unittest.TestCase):
    def told(self, wires, parts, looks, open_wires):
        work, asked = Work(wires, parts), Asked(wires, parts, looks, open_wires)
        foe, worst = foe_of(work, looks, open_wires), worst_plan(work, looks, open_wires)[0]
        if worst == 0:
            self.assertIs(foe, None)
            return worst
        self.assertIs(asked.is_foe(worst - 1, foe), True)
        for number in range(9):
            self.assertIs(is_foe(work, looks, open_wires, number, foe), number == worst - 1)
        return worst

    def test_by_hand(self):
        for wires, parts, looks, open_wires, number, foe in HAND:
            self.assertGreater(self.told(wires, parts, looks, open_wires), number)
        told = foe_of(open_wires=["b", "c"], looks=ROW_SEEN, work=ROW)
        self.assertEqual([told[0], *[row[0] for row in told[1]]], ["foe", "b", "c"])

    def test_none(self):
        for work, looks, open_wires in [(ROW, ROW_SEEN, []), (ROW, ROW_SEEN, ["a", "d"]), (ROW, [], ["a", "b"]),
                                        (ROW, UNMET, ["a", "b"]), (Work(WIRES), [], ["a"]), (Work(WIRES), UNMET, ["a"]),
                                        (Work(*row_of(1)[:2]), row_of(1)[2], ["a", "b"])]:
            self.assertIs(foe_of(work, looks, open_wires), None)

    def test_rows_of_parts(self):
        for many, worst in [(2, 1), (3, 2), (4, 2), (5, 3), (6, 3), (7, 3)]:
            wires, parts, looks = row_of(many)
            self.assertEqual(self.told(wires, parts, looks, [name for name, _ in wires]), worst)

    def test_no_look_is_spared(self):
        for manys in [(2, 2, 2, 2), (3, 2, 4), (2, 3, 2, 2)]:
            wires, parts = odd_or_even(manys)
            self.assertEqual(self.told(wires, parts, [], [name for name, _ in wires]), len(manys))

    def test_eight_wires(self):
        wires, parts = odd_or_even((2,) * 8)
        work = Work(wires, parts)
        foe = foe_of(work, [], list("abcdefgh"))
        self.assertIs(is_foe(work, [], list("abcdefgh"), 7, foe), True)
        self.assertIs(is_foe(work, [], list("abcdefgh"), 6, foe), False)
        self.assertIs(is_foe(work, [], list("abcdefg"), 7, foe), False)

    def test_few_open_wires_part_many_accounts(self):
        wires, parts = odd_or_even((2, 2, 2, 2, 2, 4, 4, 4))
        parts = parts + [("p", [("fixed", "h", 0)]), ("q", [("fixed", "h", 3)])]
        work = Work(wires, parts)
        foe = foe_of(work, [], ["h"])
        self.assertIs(is_foe(work, [], ["h"], 0, foe), True)

    def test_many_works(self):
        found = [self.told(*case) for case in faulty(150, 101)]
        self.assertGreater(found.count(2), 10)
        self.assertGreater(found.count(1), 20)


class IsFoe(unittest.TestCase):
    def test_right_ones_by_hand(self):
        for wires, parts, looks, open_wires, number, foe in HAND:
            self.assertIs(Asked(wires, parts, looks, open_wires).is_foe(number, foe), True)
            self.assertIs(is_foe(Work(wires, parts), looks, open_wires, number, foe), True)
        self.assertIs(is_foe(thing=FOE, number=1, open_wires=["b", "c"], looks=ROW_SEEN, work=ROW), True)

    def wrong(self, thing, number=1, open_wires=("b", "c"), looks=ROW_SEEN, work=ROW):
        self.assertIs(is_foe(work, looks, list(open_wires), number, thing), False)

    def test_of_other_numbers(self):
        for wires, parts, looks, open_wires, number, foe in HAND:
            for other in [0, 1, 2, 3, 9, 10 ** 59]:
                if other != number:
                    self.wrong(foe, other, open_wires, looks, Work(wires, parts))

    def test_of_other_looks_open_wires_and_works(self):
        for open_wires in [[], ["b"], ["c"], ["a", "b", "c"], ["b", "d"]]:
            self.wrong(FOE, open_wires=open_wires)
        for looks in [[], ROW_SEEN[:1], ROW_SEEN + [("is", "b", 0)], UNMET]:
            self.wrong(FOE, looks=looks)
        self.wrong(FOE, work=Work(ROW_WIRES, ROW_PARTS[:2]))
        self.wrong(FOE, work=Work(ROW_WIRES))

    def test_pairs(self):
        # Alike lots; accounts that no open wire parts; what is no account, or none by the answers so far.
        for one, other in [(FIRST, FIRST), (FIRST, ((1,), [0, 1, 1, 1])), (((0, 1), [0, 0, 1, 1]), THIRD),
                           (((), [0, 0, 0, 1]), FIRST), (FIRST, ((2,), [0, 0, 0, 0])), (FIRST, ((2,), (0, 0, 0, 1))),
                           (list(FIRST), THIRD), (FIRST, ([2], [0, 0, 0, 1])), (((False,), FIRST[1]), THIRD),
                           (((0,), [0, True, 1, 1]), THIRD), (((0,), [0, 1.0, 1, 1]), THIRD), (FIRST[:1], THIRD),
                           (FIRST + (0,), THIRD), (FIRST[::-1], THIRD), (0, 2), (None, None)]:
            self.wrong(("pair", one, other), 0)
            self.wrong(("pair", other, one), 0)
        self.wrong(("pair", SECOND, THIRD), 0, ["b"])
        self.wrong(("pair", FIRST, SECOND), 0, ["c"])
        self.wrong(("pair", FIRST, THIRD), 0, [])
        self.wrong(("pair", FIRST, THIRD), 0, ["a", "d"])
        self.wrong(("pair", ((1,), [2, 0]), ((1,), [1, 1])), 0, ["a", "b"], [], Work(SUM_WIRES, SUM_PARTS))
        for pair in [("pair", FIRST, SECOND), ("pair", FIRST, THIRD)]:
            self.wrong(("foe", [("b", 0, pair), FOE[1][1]]))
        self.wrong(("foe", [("b", 1, ("pair", SECOND, THIRD)), FOE[1][1]]))

    def test_answers(self):
        b, c = FOE[1]
        # Out of order; a wire left out, more, or twice; a value that comes in no account, or leaves no pair.
        for answers in [[c, b], [b], [c], [], [b, b], [c, c], [b, c, c], [b, c, ("d", 1, c[2])], [("a", 0, c[2]), b, c],
                        [("b", 2, b[2]), c], [("b", -1, b[2]), c], [("b", 1, b[2]), c], [b, ("c", 0, c[2])],
                        [("b", False, b[2]), c], [b, ("c", True, c[2])], [("b", 0.0, b[2]), c], [("b", "0", b[2]), c],
                        [("b", None, b[2]), c], [list(b), c], [b[:2], c], [b + (0,), c], (b, c), {0: b, 1: c},
                        [("pb", 0, b[2]), c], [("d", 0, b[2]), c], [(("b",), 0, b[2]), c]]:
            self.wrong(("foe", answers))

    def test_a_number_too_great(self):
        b, c = FOE[1]
        deeper = [("foe", [("b", 0, ("foe", [("c", value, pair)])), ("c", 1, ("foe", [("b", other, more)]))])
                  for value in (0, 1) for other in (0, 1) for pair in (b[2], c[2]) for more in (b[2], c[2])]
        for foe in deeper:
            self.wrong(foe, 2)
            self.wrong(foe, 1)
        # With no wire left there is no foe but a pair.
        self.wrong(("foe", [("b", 0, ("foe", [("c", 0, ("foe", []))])), ("c", 0, ("foe", [("b", 0, ("foe", []))]))]), 3)
        self.wrong(("foe", []), 1, [])
        self.wrong(("foe", []), 1, [], UNMET)
        self.wrong(("foe", []), 10 ** 59, [])

    def test_things_of_every_other_kind(self):
        b, c = FOE[1]
        for thing in odd_things() + [(), [], list(FOE), FOE[:1], FOE + (0,), (FOE,), ROW, "Foe", "pairs", ("foe",), ("pair",)]:
            for bad in [thing, (thing, FOE[1]), ("foe", thing), ("foe", [thing, c]), ("foe", [b, thing]),
                        ("foe", [(thing, *b[1:]), c]), ("foe", [("b", thing, b[2]), c]), ("foe", [("b", 0, thing), c]),
                        ("foe", [("b", 0, (thing, SECOND, THIRD)), c]), ("foe", [("b", 0, ("pair", thing, THIRD)), c]),
                        ("foe", [("b", 0, ("pair", (thing, SECOND[1]), THIRD)), c]),
                        ("foe", [("b", 0, ("pair", ((thing,), SECOND[1]), THIRD)), c]),
                        ("foe", [("b", 0, ("pair", ((1,), thing), THIRD)), c]),
                        ("foe", [("b", 0, ("pair", ((1,), [0, 0, thing, 1]), THIRD)), c])]:
                for number in (0, 1, 2):
                    self.wrong(bad, number)

    def test_bent_at_one_place(self):
        for wires, parts, looks, open_wires, number, foe in HAND:
            work, asked = Work(wires, parts), Asked(wires, parts, looks, open_wires)
            let_by = tried = 0
            for thing in bent(foe):
                right = asked.is_foe(number, thing)
                self.assertIs(is_foe(work, looks, open_wires, number, thing), right)
                let_by += right
                tried += 1
            self.assertLess(let_by * 50, tried)

    def test_told_ones_bent_at_one_place(self):
        for wires, parts, looks, open_wires in faulty(60, 102):
            work, asked = Work(wires, parts), Asked(wires, parts, looks, open_wires)
            foe, worst = foe_of(work, looks, open_wires), worst_plan(work, looks, open_wires)[0]
            for thing in list(bent(foe, odd=False))[::5] if foe else []:
                self.assertIs(is_foe(work, looks, open_wires, worst - 1, thing), asked.is_foe(worst - 1, thing))

    def test_where_a_foe_is_let_by_no_plan_needs_so_few(self):
        let_by = 0
        for wires, parts, looks, open_wires in faulty(150, 103):
            if len(open_wires) > 2 or len(parts) > 5:
                continue
            work, asked = Work(wires, parts), Asked(wires, parts, looks, open_wires)
            worst = min(asked.worst(plan) for plan in asked.plans())
            for number in range(3):
                foes = all_foes(asked, number)
                self.assertEqual(len(foes) > 0, number < worst)
                for foe in foes[::max(1, len(foes) // 20)]:
                    self.assertIs(is_foe(work, looks, open_wires, number, foe), True)
                    let_by += 1
        self.assertGreater(let_by, 50)

    def test_foes_handed_in_stay_as_they_were(self):
        for wires, parts, looks, open_wires, number, foe in HAND:
            before = copy.deepcopy((looks, open_wires, foe))
            is_foe(Work(wires, parts), looks, open_wires, number, foe)
            self.assertEqual((looks, open_wires, foe), before)


class Refused(Refusing, unittest.TestCase):
    def refused(self, error, fields, looks, open_wires, work=ROW):
        for call in (lambda: foe_of(work, looks, open_wires), lambda: is_foe(work, looks, open_wires, 0, FOE),
                     lambda: is_foe(work, looks, open_wires, None, None)):
            self.refused_so(error, fields, call)

    def test_no_work(self):
        for thing in odd_things() + [ROW_WIRES, Work, repr(ROW), (ROW,)]:
            self.refused(NoWork, {"part": "work", "number": None, "tie": None}, None, None, thing)

    def test_no_looks(self):
        for thing in odd_things() + [(), tuple(ROW_SEEN), ROW_SEEN[0][:2]]:
            if thing.__class__ is not list:
                for open_wires in (["b"], None):
                    self.refused(NoLook, {"number": None}, thing, open_wires)
            self.refused(NoLook, {"number": 2}, ROW_SEEN + [thing, None], None)

    def test_no_open_wires(self):
        for thing in odd_things() + WRONG_OPEN:
            if thing.__class__ is not list or thing != ["a", "b"]:
                for looks in (ROW_SEEN, [], UNMET):
                    self.refused(NoWires, {}, looks, thing)
            self.refused(NoWires, {}, ROW_SEEN, ["a", thing])

    def test_no_number(self):
        for thing in odd_things() + ["1", (1,), [1], -10 ** 59]:
            if thing.__class__ is int and thing >= 0:
                self.assertIs(is_foe(ROW, ROW_SEEN, ["b", "c"], thing, FOE), False)
                continue
            for looks in (ROW_SEEN, UNMET):
                with self.assertRaises(NoNumber) as caught:
                    is_foe(ROW, looks, ["b", "c"], thing, None)
                self.assertEqual(list(fields_of(caught.exception)), ["number"])
                self.assertIs(caught.exception.number, thing)


if __name__ == "__main__":
    unittest.main()
