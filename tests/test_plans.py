"""[9.1] and [9.2]: accounts, and plans of looks."""

import copy
import random
import unittest
from fractions import Fraction

from leastblame.blames import broken
from leastblame.errors import NoLook, NoWays, NoWires, NoWork, NoWorlds, TooMany
from leastblame.plans import accounts, is_plan, mean_plan, worst_plan
from leastblame.works import Work

from helpers import WIRES, Refusing, odd_things, some_cases
from papers import bent
from planning import FOUR, ROW, ROW_PARTS, ROW_SEEN, ROW_WIRES, UNMET, WRONG_OPEN
from planning import Asked, account_shares_slowly, accounts_slowly, is_told_fraction, odd_or_even, plain_like
from planning import row_of, row_ways, some_faults, some_ways, told_fraction

# Written by hand: one of three parts in a row is broken.
ROW_ACCOUNTS = [((0,), [0, 1, 1, 1]), ((1,), [0, 0, 1, 1]), ((2,), [0, 0, 0, 1])]
BY_B = ("look", "b", [(0, ("look", "c", [(0, ("done", [(2,)])), (1, ("done", [(1,)]))])), (1, ("done", [(0,)]))])
BY_C = ("look", "c", [(0, ("done", [(2,)])), (1, ("look", "b", [(0, ("done", [(1,)])), (1, ("done", [(0,)]))]))])

FOUR_PLAN = ("look", "x", [(n, ("done", [(n,)])) for n in range(4)])

# Right plans written by hand: (wires, parts, looks, open wires, plan, worst).
HAND = [
    (ROW_WIRES, ROW_PARTS, ROW_SEEN, ["b", "c"], BY_B, 2),
    (ROW_WIRES, ROW_PARTS, ROW_SEEN, ["b", "c"], BY_C, 2),
    (ROW_WIRES, ROW_PARTS, ROW_SEEN, ["a", "b", "c", "d"], BY_C, 2),
    # A look for nothing is a look all the same.
    (ROW_WIRES, ROW_PARTS, ROW_SEEN, ["a", "b", "c"], ("look", "a", [(0, BY_B)]), 3),
    (ROW_WIRES, ROW_PARTS, ROW_SEEN, ["b"], ("look", "b", [(0, ("done", [(1,), (2,)])), (1, ("done", [(0,)]))]), 1),
    (ROW_WIRES, ROW_PARTS, ROW_SEEN, [], ("done", [(0,), (1,), (2,)]), 0),
    (ROW_WIRES, ROW_PARTS, ROW_SEEN, ["a", "d"], ("done", [(0,), (1,), (2,)]), 0),
    (ROW_WIRES, ROW_PARTS, [], ["a", "b", "c"], ("done", [()]), 0),
    (ROW_WIRES, ROW_PARTS, UNMET, ["a", "b", "c"], ("done", []), 0),
    (FOUR.wires(), FOUR.parts(), [], ["x"], FOUR_PLAN, 1),
    (FOUR.wires(), FOUR.parts(), [("isnt", "x", 2)], ["x"], ("look", "x", FOUR_PLAN[2][:2] + FOUR_PLAN[2][3:]), 1),
]


def cases_with_open(many, seed):
    """Works with looks and open wires: few enough that all plans can be gone through."""
    chance = random.Random(seed)
    found = []
    for wires, parts, looks in some_cases(many // 2, seed) + some_faults(chance, many):
        if len(parts) > 5 or len(wires) > 7:
            continue
        most = 4 if all(size == 2 for name, size in wires) else 3
        names = chance.sample([name for name, size in wires], chance.choice([0, min(most, len(wires)), min(most, len(wires))]))
        found.append((wires, parts, looks, sorted(names)))
    return found


class Accounts(unittest.TestCase):
    def test_by_hand(self):
        self.assertEqual(accounts(ROW, ROW_SEEN), ROW_ACCOUNTS)
        self.assertEqual(accounts(looks=[], work=ROW), [((), [0, 0, 0, 0]), ((), [1, 1, 1, 1])])
        self.assertEqual(accounts(FOUR, []), [((n,), [n]) for n in range(4)])

    def test_sorted_by_lots_first(self):
        parts = [("p", [("fixed", "a", 0)]), ("q", [("fixed", "a", 0)]), ("r", [("fixed", "a", 1)])]
        self.assertEqual(accounts(Work([("a", 2), ("b", 2)], parts), []), [
            ((2,), [0, 0]), ((2,), [0, 1]), ((0, 1), [1, 0]), ((0, 1), [1, 1])])

    def test_no_accounts(self):
        self.assertEqual(accounts(ROW, UNMET), [])
        self.assertEqual(accounts(Work(WIRES), UNMET), [])

    def test_no_parts(self):
        self.assertEqual(accounts(Work([("a", 2), ("b", 3)]), [("isnt", "b", 1)]), [
            ((), [0, 0]), ((), [0, 2]), ((), [1, 0]), ((), [1, 2])])

    def test_many_works(self):
        for wires, parts, looks in some_cases(150, seed=91):
            work = Work(wires, parts)
            told = accounts(work, looks)
            self.assertTrue(plain_like(told, accounts_slowly(wires, parts, looks)), (wires, parts, looks))
            lots = [lot for lot, world in told]
            self.assertEqual([lot for lot in broken(work, looks) if lot in lots], broken(work, looks))


class Told(unittest.TestCase):
    def both(self, wires, parts, looks, open_wires, ways=None):
        """Both told plans, looked through."""
        work, asked = Work(wires, parts), Asked(wires, parts, looks, open_wires)
        shares = account_shares_slowly(wires, parts, ways, looks)
        worst, mean = worst_plan(work, looks, open_wires), mean_plan(work, looks, open_wires, ways=ways)
        for number, plan in (worst, mean):
            self.assertIs(asked.is_plan(plan), True)
            self.assertIs(is_plan(work, looks, open_wires, plan), True)
            for lot, world in asked.rows:
                many, lots = asked.needs(plan, world)
                self.assertIn(lot, lots)
                self.assertLessEqual(many, asked.worst(plan))
        self.assertEqual(worst[0], asked.worst(worst[1]))
        self.assertIs(worst[0].__class__, int)
        self.assertTrue(is_told_fraction(mean[0]))
        self.assertEqual(Fraction(*mean[0]), asked.mean(mean[1], shares))
        return worst, mean

    def test_rows_of_parts_halved(self):
        for many, worst, mean in [(1, 0, (0, 1)), (2, 1, (1, 1)), (3, 2, (5, 3)), (4, 2, (2, 1)), (5, 3, (12, 5)),
                                  (6, 3, (8, 3)), (7, 3, (20, 7))]:
            wires, parts, looks = row_of(many)
            told = self.both(wires, parts, looks, [name for name, _ in wires])
            self.assertEqual((told[0][0], told[1][0]), (worst, mean))
            told = self.both(wires, parts, looks, [name for name, _ in wires][1:-1])
            self.assertEqual((told[0][0], told[1][0]), (worst, mean))

    def test_rows_of_parts_by_alike_shares(self):
        for many, mean in [(1, (0, 1)), (3, (5, 3)), (5, (12, 5)), (7, (20, 7))]:
            wires, parts, looks = row_of(many)
            for share in [(1, 2), (1, 97)]:
                told = self.both(wires, parts, looks, [name for name, _ in wires], row_ways([share] * many))
                self.assertEqual(told[1][0], mean)

    def test_rows_of_parts_by_unlike_shares(self):
        # Odds of 16 to 8 to 4 to 2 to 1: it is best to ask for the likeliest first.
        wires, parts, looks = row_of(5)
        ways = row_ways([(1, 3), (1, 5), (1, 9), (1, 17), (1, 33)])
        worst, mean = self.both(wires, parts, looks, list("bcde"), ways)
        self.assertEqual((worst[0], mean[0]), (3, (56, 31)))
        self.assertEqual([branch[0:2] for branch in self.first_looks(mean[1])], ["b", "c", "d", "e"])
        worst, mean = self.both(wires, parts, looks, list("bcde"), ways[:0] + row_ways([(1, 33), (1, 17), (1, 9), (1, 5), (1, 3)]))
        self.assertEqual((worst[0], mean[0]), (3, (56, 31)))
        self.assertEqual(self.first_looks(mean[1]), ["e", "d", "c", "b"])
        self.assertEqual(mean_plan(ROW, ROW_SEEN, ["b", "c"], ways=row_ways([(1, 2), (1, 3), (1, 5)])), ((10, 7), BY_B))
        self.assertEqual(mean_plan(ROW, ROW_SEEN, ["b", "c"], ways=row_ways([(1, 5), (1, 3), (1, 2)])), ((10, 7), BY_C))

    def first_looks(self, plan):
        """The wires along the longest way down."""
        if plan[0] == "done":
            return []
        return [plan[1]] + max((self.first_looks(below) for _, below in plan[2]), key=len)

    def test_few_open_wires(self):
        wires, parts, looks = row_of(7)
        work = Work(wires, parts)
        lots = [(n,) for n in range(7)]
        number, plan = worst_plan(work, looks, ["c", "e"])
        self.assertEqual(number, 2)
        by_e = ("look", "e", [(0, ("done", lots[4:])), (1, ("look", "c", [(0, ("done", lots[2:4])), (1, ("done", lots[:2]))]))])
        self.assertEqual(mean_plan(work, looks, ["c", "e"]), ((11, 7), by_e))
        self.assertEqual(worst_plan(work, looks, ["e"]), (1, ("look", "e", [(0, ("done", lots[4:])), (1, ("done", lots[:4]))])))

    def test_by_hand(self):
        for wires, parts, looks, open_wires, plan, worst in HAND:
            told = self.both(wires, parts, looks, open_wires)
            self.assertLessEqual(told[0][0], worst)
        self.assertEqual(worst_plan(open_wires=["x"], looks=[], work=FOUR), (1, FOUR_PLAN))
        self.assertEqual(mean_plan(open_wires=["x"], looks=[], work=FOUR), ((1, 1), FOUR_PLAN))
        self.assertEqual(mean_plan(FOUR, [], ["x"], ways=None), ((1, 1), FOUR_PLAN))
        self.assertRaises(TypeError, mean_plan, FOUR, [], ["x"], None)

    def test_no_open_wires(self):
        self.assertEqual(worst_plan(ROW, ROW_SEEN, []), (0, ("done", [(0,), (1,), (2,)])))
        self.assertEqual(mean_plan(ROW, ROW_SEEN, []), ((0, 1), ("done", [(0,), (1,), (2,)])))
        self.assertEqual(mean_plan(ROW, ROW_SEEN, [], ways=row_ways([(1, 2)] * 3)), ((0, 1), ("done", [(0,), (1,), (2,)])))

    def test_no_accounts(self):
        for work in (ROW, Work([("a", 2), ("b", 2)])):
            for open_wires in ([], ["a", "b"]):
                self.assertEqual(worst_plan(work, UNMET, open_wires), (0, ("done", [])))
                self.assertEqual(mean_plan(work, UNMET, open_wires), ((0, 1), ("done", [])))
                # Nothing is left by these ways either, but there are no accounts that would be nought.
                ways = [[] for _ in work.parts()]
                self.assertEqual(mean_plan(work, UNMET, open_wires, ways=ways), ((0, 1), ("done", [])))

    def test_one_account(self):
        wires, parts, looks = row_of(1)
        self.assertEqual(worst_plan(Work(wires, parts), looks, ["a", "b"]), (0, ("done", [(0,)])))
        self.assertEqual(mean_plan(Work(wires, parts), looks, ["a", "b"]), ((0, 1), ("done", [(0,)])))

    def test_no_parts(self):
        self.assertEqual(worst_plan(Work(WIRES), [], ["a", "b"]), (0, ("done", [()])))
        self.assertEqual(mean_plan(Work(WIRES), [], ["a", "b"], ways=[]), ((0, 1), ("done", [()])))

    def test_accounts_that_no_open_wire_parts(self):
        # b is like c in all accounts, and neither tells of a: what is left after a look at one is settled.
        work = Work([("a", 2), ("b", 2), ("c", 2)], [("p", [("fixed", "a", 0)]), ("q", [("fixed", "a", 1)]),
                                                     ("r", [("same", "b", "c")])])
        either = ("done", [(0,), (1,)])
        self.assertEqual(worst_plan(work, [], ["b", "c"]), (1, ("look", "b", [(0, either), (1, either)])))
        work = Work([("a", 2), ("b", 2)], [("p", [("fixed", "a", 0)]), ("q", [("fixed", "a", 1)])])
        self.assertEqual(worst_plan(work, [("is", "b", 1)], ["b"]), (0, ("done", [(0,), (1,)])))
        self.assertEqual(worst_plan(work, [], ["b"]), (1, ("look", "b", [(0, either), (1, either)])))

    def test_no_look_is_spared(self):
        for manys in [(2, 2, 2, 2), (3, 2, 4), (2,) * 6]:
            wires, parts = odd_or_even(manys)
            worst, mean = self.both(wires, parts, [], [name for name, _ in wires])
            self.assertEqual((worst[0], mean[0]), (len(manys), (len(manys), 1)))

    def test_eight_wires_and_most_worlds(self):
        wires, parts = odd_or_even((2, 2, 2, 2, 2, 4, 4, 4))
        work = Work(wires, parts)
        for number, plan in [worst_plan(work, [], list("abcdefgh")), mean_plan(work, [], list("abcdefgh"))]:
            self.assertIn(number, (8, (8, 1)))
            self.assertIs(is_plan(work, [], list("abcdefgh"), plan), True)

    def test_all_plans_gone_through(self):
        chance = random.Random(92)
        deep = 0
        for wires, parts, looks, open_wires in cases_with_open(220, 92):
            work, asked = Work(wires, parts), Asked(wires, parts, looks, open_wires)
            plans = list(asked.plans())
            for plan in plans[::max(1, len(plans) // 20)]:
                self.assertIs(is_plan(work, looks, open_wires, plan), True)
            worst, mean = self.both(wires, parts, looks, open_wires)
            self.assertEqual(worst[0], min(asked.worst(plan) for plan in plans))
            shares = account_shares_slowly(wires, parts, None, looks)
            self.assertEqual(mean[0], told_fraction(min(asked.mean(plan, shares) for plan in plans)))
            deep += worst[0] > 1
            ways = some_ways(chance, wires, parts, 2 if len(parts) < 4 else 1)
            shares = account_shares_slowly(wires, parts, ways, looks)
            if shares is None and asked.rows:
                self.assertRaises(NoWorlds, mean_plan, work, looks, open_wires, ways=ways)
            elif asked.rows:
                mean = self.both(wires, parts, looks, open_wires, ways)[1]
                self.assertEqual(mean[0], told_fraction(min(asked.mean(plan, shares) for plan in plans)))
        self.assertGreater(deep, 20)

    def test_the_least_worst_may_not_be_the_least_mean(self):
        wires, parts, looks = row_of(4)
        ways = row_ways([(9, 10), (1, 100), (1, 100), (1, 100)])
        worst, mean = self.both(wires, parts, looks, ["b", "c", "d"], ways)
        self.assertEqual((worst[0], worst[1][1]), (2, "c"))
        self.assertEqual(mean[1][1], "b")

    def test_accounts_with_no_share_are_asked_for_all_the_same(self):
        ways = row_ways([(1, 2), (1, 2), (1, 2)])
        ways[1] = []
        self.assertEqual(mean_plan(ROW, ROW_SEEN, ["b", "c"], ways=ways)[0], (3, 2))
        ways[2] = []
        self.assertEqual(mean_plan(ROW, ROW_SEEN, ["b", "c"], ways=ways), ((1, 1), BY_B))


class IsPlan(unittest.TestCase):
    def test_right_ones_by_hand(self):
        for wires, parts, looks, open_wires, plan, worst in HAND:
            asked = Asked(wires, parts, looks, open_wires)
            self.assertIs(is_plan(Work(wires, parts), looks, open_wires, plan), True)
            self.assertIs(asked.is_plan(plan), True)
            self.assertEqual(asked.worst(plan), worst)
        self.assertIs(is_plan(thing=BY_B, open_wires=["b", "c"], looks=ROW_SEEN, work=ROW), True)

    def wrong(self, thing, open_wires=("b", "c"), looks=ROW_SEEN, work=ROW):
        self.assertIs(is_plan(work, looks, list(open_wires), thing), False)

    def test_of_other_looks_open_wires_and_works(self):
        self.wrong(BY_B, [])
        self.wrong(BY_B, ["b"])
        self.wrong(BY_B, ["c", "d"])
        self.wrong(BY_B, looks=[])
        self.wrong(BY_B, looks=ROW_SEEN[:1])
        self.wrong(BY_B, looks=ROW_SEEN + [("is", "b", 0)])
        self.wrong(BY_B, looks=UNMET)
        self.wrong(BY_B, work=Work(ROW_WIRES, ROW_PARTS[:2]))
        self.wrong(BY_B, work=Work(ROW_WIRES))

    def test_wires(self):
        done = BY_C[2][0]
        # Not open; looked at twice; no wire at all.
        self.wrong(("look", "a", [(0, BY_B)]))
        self.wrong(("look", "d", [(1, BY_B)]))
        self.wrong(("look", "b", [(0, ("look", "b", [(0, ("done", [(1,), (2,)]))])), (1, ("done", [(0,)]))]))
        self.wrong(("look", "c", [done, (1, ("look", "c", [(1, ("look", "b", BY_C[2][1][1][2]))]))]))
        for name in ("pb", "z", "", "B", "b ", ("b",), ["b"], None, 0, 1, True, b"b"):
            self.wrong(("look", name, BY_B[2]))

    def test_branches(self):
        wire, branches = BY_B[1:]
        for bad in [branches[:1], branches[1:], [], branches[::-1], branches + branches[1:], [branches[0]] * 2,
                    branches + [(2, ("done", []))], [(-1, ("done", []))] + branches, tuple(branches), dict(branches),
                    [(0, branches[1][1]), (1, branches[0][1])], [(1, branches[0][1]), (0, branches[1][1])],
                    [(False, branches[0][1]), branches[1]], [branches[0], (True, branches[1][1])],
                    [(0.0, branches[0][1]), branches[1]], [("0", branches[0][1]), branches[1]],
                    [list(branches[0]), branches[1]], [(*branches[0], 0), branches[1]], [branches[0][:1], branches[1]]]:
            self.wrong(("look", wire, bad))
        values = FOUR_PLAN[2]
        for at in range(4):
            self.wrong(("look", "x", values[:at] + values[at + 1:]), ["x"], [], FOUR)
            self.wrong(FOUR_PLAN, ["x"], [("isnt", "x", at)], FOUR)
        self.wrong(("look", "x", [*values, (4, ("done", []))]), ["x"], [], FOUR)

    def test_done(self):
        # Too early; not yet where all is settled; with other lots.
        self.wrong(("done", [(0,), (1,), (2,)]))
        self.wrong(("look", "b", [(0, ("done", [(1,), (2,)])), (1, ("done", [(0,)]))]))
        self.wrong(("look", "b", [BY_B[2][0], (1, ("look", "c", [(1, ("done", [(0,)]))]))]))
        self.wrong(("look", "b", [(0, ("done", [()])), (1, ("done", [()]))]), looks=[])
        self.wrong(("look", "a", [(0, ("done", []))]), ["a"], UNMET)
        for lots in [[], [(1,)], [(2,)], [(0,), (0,)], [(0,), (1,)], [()], [(0, 1)], [(False,)], [(0.0,)], [[0]], [0], (0,),
                     ((0,),), {(0,): 0}, {(0,)}, None, "0"]:
            self.wrong(("look", "b", [BY_B[2][0], (1, ("done", lots))]))
        for lots in [[(2,), (1,)], [(1,)], [(1, 2)], [(1,), (2,), (2,)], [(0,), (1,), (2,)]]:
            self.wrong(("look", "b", [(0, ("done", lots)), (1, ("done", [(0,)]))]), ["b"])
        right = ("look", "b", [(0, ("done", [(1,), (2,)])), (1, ("done", [(0,)]))])
        self.assertIs(is_plan(ROW, ROW_SEEN, ["b"], right), True)

    def test_things_of_every_other_kind(self):
        wire, branches = BY_B[1:]
        for thing in odd_things() + [(), [], list(BY_B), BY_B[:2], (BY_B,), BY_B + (0,), ROW, "Look", "did", ("done",), ("look",),
                                     ("look", "b"), ("done", [], []), ("Look", *BY_B[1:]), (b"look", *BY_B[1:])]:
            for bad in [thing, (thing, wire, branches), ("look", thing, branches), ("look", wire, thing),
                        ("look", wire, [thing, branches[1]]), ("look", wire, [branches[0], thing]),
                        ("look", wire, [(0, thing), branches[1]]), ("look", wire, [branches[0], (1, thing)]),
                        ("look", wire, [branches[0], (thing, branches[1][1])]), ("done", thing),
                        ("look", wire, [branches[0], (1, (thing, [(0,)]))]),
                        ("look", wire, [branches[0], (1, ("done", thing))]),
                        ("look", wire, [branches[0], (1, ("done", [thing]))]),
                        ("look", wire, [branches[0], (1, ("done", [(thing,)]))])]:
                self.wrong(bad)

    def test_bent_at_one_place(self):
        for wires, parts, looks, open_wires, plan, worst in HAND:
            work, asked = Work(wires, parts), Asked(wires, parts, looks, open_wires)
            let_by = tried = 0
            for thing in bent(plan):
                right = asked.is_plan(thing)
                self.assertIs(is_plan(work, looks, open_wires, thing), right)
                let_by += right
                tried += 1
            self.assertLess(let_by * 50, tried)

    def test_told_ones_bent_at_one_place(self):
        for wires, parts, looks, open_wires in cases_with_open(60, 93):
            work, asked = Work(wires, parts), Asked(wires, parts, looks, open_wires)
            for thing in list(bent(worst_plan(work, looks, open_wires)[1], odd=False))[::3]:
                self.assertIs(is_plan(work, looks, open_wires, thing), asked.is_plan(thing))

    def test_plans_handed_in_stay_as_they_were(self):
        for wires, parts, looks, open_wires, plan, worst in HAND:
            before = copy.deepcopy((looks, open_wires, plan))
            is_plan(Work(wires, parts), looks, open_wires, plan)
            self.assertEqual((looks, open_wires, plan), before)


def doors(looks, open_wires):
    """Each call with looks and open wires."""
    return [
        lambda work: worst_plan(work, looks, open_wires), lambda work: mean_plan(work, looks, open_wires),
        lambda work: mean_plan(work, looks, open_wires, ways=0), lambda work: is_plan(work, looks, open_wires, BY_B),
        lambda work: is_plan(work, looks, open_wires, None)]


class Refused(Refusing, unittest.TestCase):
    def refused(self, error, fields, calls, work=ROW):
        for call in calls:
            self.refused_so(error, fields, call, work)

    def test_no_work(self):
        for thing in odd_things() + [ROW_WIRES, Work, repr(ROW), (ROW,)]:
            calls = doors(None, None) + [lambda work: accounts(work, None)]
            self.refused(NoWork, {"part": "work", "number": None, "tie": None}, calls, thing)

    def test_no_looks(self):
        for thing in odd_things() + [(), tuple(ROW_SEEN), ROW_SEEN[0][:2]]:
            if thing.__class__ is not list:
                for open_wires in (["b"], None):
                    calls = doors(thing, open_wires) + [lambda work: accounts(work, thing)]
                    self.refused(NoLook, {"number": None}, calls)
            calls = doors(ROW_SEEN + [thing, None], None) + [lambda work: accounts(work, ROW_SEEN + [thing])]
            self.refused(NoLook, {"number": 2}, calls)
        for look in [("is", "a", 2), ("is", "pb", 0), ("was", "a", 0), ["is", "a", 0], ("is", "a", 0, 0), ("is", "a", False)]:
            self.refused(NoLook, {"number": 0}, doors([look], ["b"]) + [lambda work: accounts(work, [look])])

    def test_no_open_wires(self):
        for thing in odd_things() + WRONG_OPEN:
            if thing.__class__ is not list or thing != ["a", "b"]:
                for looks in (ROW_SEEN, [], UNMET):
                    self.refused(NoWires, {}, doors(looks, thing))
        for thing in odd_things():
            self.refused(NoWires, {}, doors(ROW_SEEN, ["a", thing]) + doors(ROW_SEEN, [thing, "b"]))

    def test_no_ways(self):
        fair = row_ways([(1, 2)] * 3)
        for thing in odd_things() + [(), tuple(fair), fair[:2], fair * 2, fair[0]]:
            if thing is not None and (thing.__class__ is not list or len(thing) != 3):
                for looks in (ROW_SEEN, UNMET):
                    self.refused(NoWays, {"part": None}, [lambda work: mean_plan(work, looks, ["b"], ways=thing)])
        for thing in odd_things() + [[((1, 1), [])], [((1, 2), [])] * 2, fair[0] * 4, [((2, 4), [])], [((1, 2), ())]]:
            for at in range(3):
                ways = fair[:at] + [thing] + fair[at + 1:]
                self.refused(NoWays, {"part": at}, [lambda work: mean_plan(work, ROW_SEEN, ["b"], ways=ways)])

    def test_too_many(self):
        wires, parts, looks = row_of(6)
        work = Work(wires, parts)
        ways = [[((1, 8), []), ((1, 4), []), ((1, 9), [])]] * 5 + [[((1, 2), [])]]
        for seen in (looks, [], UNMET):
            self.refused(TooMany, {"many": 1024}, [lambda work: mean_plan(work, seen, ["b"], ways=ways)], work)
        self.refused(NoLook, {"number": None}, [lambda work: mean_plan(work, None, ["b"], ways=ways)], work)
        self.refused(NoWires, {}, [lambda work: mean_plan(work, looks, None, ways=ways)], work)
        self.refused(NoWays, {"part": 5}, [lambda work: mean_plan(work, looks, [], ways=ways[:5] + [None])], work)
        most = ways[:5] + [[]]
        told = mean_plan(work, looks, list("bcdef"), ways=most)
        self.assertIs(is_plan(work, looks, list("bcdef"), told[1]), True)

    def test_no_worlds(self):
        for work, looks in [(ROW, ROW_SEEN), (Work(*row_of(1)[:2]), row_of(1)[2])]:
            for open_wires in ([], ["a", "b"]):
                ways = [[] for _ in work.parts()]
                self.refused(NoWorlds, {}, [lambda work: mean_plan(work, looks, open_wires, ways=ways)], work)
        # All three are broken together, or none is: no account is so.
        ways = [[((1, 2), [("fixed", "a", 1)])]] * 3
        self.refused(NoWorlds, {}, [lambda work: mean_plan(work, ROW_SEEN, ["b"], ways=ways)])


if __name__ == "__main__":
    unittest.main()
