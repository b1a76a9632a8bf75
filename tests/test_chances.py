"""[8.1]: ways of being broken, and chances behind looks."""

import copy
import random
import unittest
from fractions import Fraction

from leastblame.chances import broken_chances, chances
from leastblame.errors import NoLook, NoWays, NoWork, NoWorlds, TooMany
from leastblame.works import Work

from helpers import TIES, WIRES, Refusing, fields_of, odd_things, some_cases
from planning import chances_slowly, is_told_fraction, row_of, row_ways, some_ways, told_fraction

INVERTER = Work([("a", 2), ("b", 2)], [("inv", [("turned", "b", "a")])])
STUCK = [[((1, 10), [("same", "b", "a")]), ((1, 5), [])]]
BOTH = [("is", "a", 1), ("is", "b", 1)]
UNMET = [("is", "a", 0), ("isnt", "a", 0)]

# Five parts with three ways each: just 1024 modes.
FIVE = Work([("a", 2), ("b", 2)], [(name, [("same", "a", "a")]) for name in "pqrst"])
THREE = [((1, 4), []), ((1, 6), [("fixed", "a", 0)]), ((1, 12), [("fixed", "b", 1)])]


class Chances(unittest.TestCase):
    def test_by_hand(self):
        self.assertEqual(chances(INVERTER, STUCK, []), [((0,), (7, 10)), ((1,), (1, 10)), ((2,), (1, 5))])
        self.assertEqual(chances(INVERTER, STUCK, BOTH[:1]), [((0,), (7, 10)), ((1,), (1, 10)), ((2,), (1, 5))])
        self.assertEqual(chances(INVERTER, STUCK, BOTH), [((1,), (1, 2)), ((2,), (1, 2))])
        self.assertEqual(chances(looks=[("isnt", "b", 1), ("is", "a", 1)], ways=STUCK, work=INVERTER),
                         [((0,), (7, 8)), ((2,), (1, 8))])
        self.assertEqual(broken_chances(INVERTER, STUCK, []), [(3, 10)])
        self.assertEqual(broken_chances(INVERTER, STUCK, BOTH), [(1, 1)])
        self.assertEqual(broken_chances(looks=[("is", "b", 0), ("is", "a", 1)], ways=STUCK, work=INVERTER), [(1, 8)])

    def test_a_row_of_parts(self):
        wires, parts, looks = row_of(3)
        # One is broken, by odds of 1 to 1, 1 to 2 and 1 to 4, or all three are.
        ways = row_ways([(1, 2), (1, 3), (1, 5)])
        work = Work(wires, parts)
        self.assertEqual(chances(work, ways, looks), [
            ((0, 0, 1), (2, 15)), ((0, 1, 0), (4, 15)), ((1, 0, 0), (8, 15)), ((1, 1, 1), (1, 15))])
        self.assertEqual(broken_chances(work, ways, looks), [(3, 5), (1, 3), (1, 5)])

    def test_a_work_with_no_part(self):
        for work in (Work(WIRES), Work([("a", 2)])):
            self.assertEqual(chances(work, [], []), [((), (1, 1))])
            self.assertEqual(chances(work, [], [("is", "a", 1)]), [((), (1, 1))])
            self.assertEqual(broken_chances(work, [], []), [])
            self.refused_worlds(work, [], UNMET)

    def refused_worlds(self, work, ways, looks):
        for call in (chances, broken_chances):
            with self.assertRaises(NoWorlds) as caught:
                call(work, ways, looks)
            self.assertEqual(fields_of(caught.exception), {})

    def test_parts_with_no_way(self):
        self.assertEqual(chances(INVERTER, [[]], []), [((0,), (1, 1))])
        self.assertEqual(broken_chances(INVERTER, [[]], [("is", "a", 1)]), [(0, 1)])
        self.refused_worlds(INVERTER, [[]], BOTH)

    def test_looks_that_cannot_be_met(self):
        self.refused_worlds(INVERTER, STUCK, UNMET)
        self.refused_worlds(FIVE, [THREE] * 5, UNMET)

    def test_modes_with_no_world(self):
        never = [((1, 10), [("fixed", "a", 3)]), ((1, 5), [("rows", ("b",), ())])]
        # They are as if they weren't: what is left is taken as all there is.
        self.assertEqual(chances(INVERTER, [never], []), [((0,), (1, 1))])
        self.assertEqual(chances(INVERTER, [never + STUCK[0][:1]], []), [((0,), (6, 7)), ((3,), (1, 7))])
        self.refused_worlds(INVERTER, [never], BOTH)
        self.refused_worlds(Work([("a", 2)], [("p", [("fixed", "a", 2)])]), [[]], [])
        broken = Work([("a", 2)], [("p", [("fixed", "a", 2)])])
        self.assertEqual(chances(broken, [[((1, 1000), [])]], []), [((1,), (1, 1))])
        self.assertEqual(broken_chances(broken, [[((1, 1000), [])]], []), [(1, 1)])

    def test_modes_with_few_worlds_weigh_more_where_they_are_met(self):
        ways = [[((1, 2), [("fixed", "a", 1), ("fixed", "b", 1)])]]
        self.assertEqual(chances(INVERTER, ways, []), [((0,), (1, 2)), ((1,), (1, 2))])
        self.assertEqual(chances(INVERTER, ways, [("is", "a", 1)]), [((0,), (1, 3)), ((1,), (2, 3))])

    def test_three_ways_and_six_ties(self):
        six = [("fixed", "a", 1), ("same", "b", "a"), ("same", "a", "b"), ("least", "a", "a", "b"), ("most", "a", "a", "b"),
               ("pick", "a", "b", "b", "a")]
        ways = [[((1, 3), []), ((1, 4), six), ((1, 5), six[:1])]]
        told = dict(chances(INVERTER, ways, BOTH))
        self.assertEqual(told, {(1,): (5, 26), (2,): (15, 26), (3,): (3, 13)})
        self.assertEqual([Fraction(*told[(n,)]) for n in (1, 2, 3)], [
            share / (Fraction(1, 12) + Fraction(1, 4) + Fraction(1, 10))
            for share in (Fraction(1, 12), Fraction(1, 4), Fraction(1, 10))])

    def test_shares_that_leave_next_to_nothing(self):
        big = 10 ** 59
        ways = [[((big - 2, big - 1), [("same", "b", "a")])]]
        self.assertEqual(chances(INVERTER, ways, []), [((0,), (1, big - 1)), ((1,), (big - 2, big - 1))])
        ways = [[((1, 2), []), ((1, 3), []), ((big // 6, big), [])]]
        ways[0][2] = (told_fraction(Fraction(big // 6, big)), [])
        left = 1 - Fraction(1, 2) - Fraction(1, 3) - Fraction(big // 6, big)
        self.assertGreater(left, 0)
        self.assertEqual(chances(INVERTER, ways, [])[0], ((0,), told_fraction(left)))

    def test_just_as_many_modes_as_may_be(self):
        told = chances(FIVE, [THREE] * 5, [])
        self.assertEqual(len(told), 1024)
        self.assertEqual(sum(Fraction(*share) for modes, share in told), 1)
        self.assertEqual(told, sorted(told))
        # Modes with no tie on a wire have all its values: four worlds, two or one.
        found = dict(told)
        self.assertEqual(Fraction(*found[(0,) * 5]), Fraction(1, 32))
        self.assertEqual(Fraction(*found[(3, 1, 2, 0, 0)]), Fraction(1, 12 * 4 * 6 * 4))
        looked = dict(chances(FIVE, [THREE] * 5, [("is", "a", 0), ("is", "b", 1)]))
        self.assertEqual(len(looked), 1024)
        self.assertEqual(Fraction(*looked[(0,) * 5]) / Fraction(*looked[(2, 3, 1, 1, 1)]),
                         Fraction(1, 32 * 4) / Fraction(1, 6 * 12 * 64))
        self.assertEqual(broken_chances(FIVE, [THREE] * 5, []), [(1, 2)] * 5)

    def test_many_works(self):
        chance = random.Random(81)
        tried = refused = 0
        for wires, parts, looks in some_cases(200, seed=81):
            ways = some_ways(chance, wires, parts, 3 if len(parts) < 4 else 1)
            work, right = Work(wires, parts), chances_slowly(wires, parts, ways, looks)
            if not right:
                self.refused_worlds(work, ways, looks)
                refused += 1
                continue
            told = chances(work, ways, looks)
            self.assertEqual(told, [(modes, told_fraction(right[modes])) for modes in sorted(right)])
            self.assertTrue(told.__class__ is list and all(row.__class__ is tuple for row in told))
            self.assertTrue(all(is_told_fraction(share) and share[0] > 0 for modes, share in told))
            self.assertTrue(all(modes.__class__ is tuple and len(modes) == len(parts) for modes, share in told))
            self.assertEqual(sum(Fraction(*share) for modes, share in told), 1)
            parted = broken_chances(work, ways, looks)
            self.assertEqual(parted, [
                told_fraction(sum((share for modes, share in right.items() if modes[part]), Fraction(0)))
                for part in range(len(parts))])
            self.assertTrue(all(is_told_fraction(share) for share in parted))
            tried += 1
        self.assertGreater(tried, 80)
        self.assertGreater(refused, 10)

    def test_looks_in_another_order_or_told_twice(self):
        for wires, parts, looks in some_cases(30, seed=82):
            work, ways = Work(wires, parts), [[((1, 7), [])] for _ in parts]
            for other in (looks[::-1], looks + looks):
                try:
                    told = chances(work, ways, looks)
                except NoWorlds:
                    self.refused_worlds(work, ways, other)
                else:
                    self.assertEqual(chances(work, ways, other), told)


def wrong_parts():
    """What is not what a part's ways are, by the wires a and b."""
    way = ((1, 3), [])
    wrong = odd_things()
    wrong += [way, (way,), [way] * 4, [((1, 8), [])] * 4, [((1, 4), [])] * 4]
    wrong += [[((1, 2), [])] * 2, [way] * 3, [((1, 1), [])], [((3, 2), [])]]
    wrong += [[((0, 1), [])], [((2, 4), [])], [((-1, 3), [])], [((1, 0), [])], [((1, -3), [])], [((True, 3), [])],
              [((1, 3, 5), [])], [((1,), [])], [([1, 3], [])], [(0.25, [])], [((1.0, 3), [])], [((1, 3.0), [])]]
    wrong += [[(share, [])] for share in odd_things()] + [[((thing, 3), [])] for thing in odd_things()]
    wrong += [[((1, thing), [])] for thing in odd_things() if thing.__class__ is not int or thing < 2]
    wrong += [[((1, 3),)], [((1, 3), [], [])], [[(1, 3), []]], [((1, 3), ())], [((1, 3), [("fixed", "a", 0)] * 7)]]
    wrong += [[((1, 3), thing)] for thing in odd_things() if thing.__class__ is not list] + [[((1, 3), ("fixed", "a", 0))]]
    wrong += [[((1, 3), [thing])] for thing in odd_things() + TIES[1:7] + [("fixed", "z", 0), ("fixed", "inv", 0)]]
    wrong += [[way, thing] for thing in odd_things()] + [[way, ((2, 3), [])]]
    return wrong


class Refused(Refusing, unittest.TestCase):
    def refused(self, error, fields, *handed):
        for call in (chances, broken_chances):
            self.refused_so(error, fields, call, *handed)

    def test_no_work(self):
        for thing in odd_things() + [INVERTER.wires(), Work, repr(INVERTER), (INVERTER,)]:
            for ways in (STUCK, None):
                self.refused(NoWork, {"part": "work", "number": None, "tie": None}, thing, ways, None)

    def test_no_list_of_as_many(self):
        for thing in odd_things() + [tuple(STUCK), STUCK * 2, STUCK[0], []]:
            if thing.__class__ is not list or len(thing) != 1:
                for looks in ([], None, UNMET):
                    self.refused(NoWays, {"part": None}, INVERTER, thing, looks)
        self.refused(NoWays, {"part": None}, Work(WIRES), [[]], [])
        self.refused(NoWays, {"part": None}, FIVE, [[]] * 4, [])
        self.refused(NoWays, {"part": None}, FIVE, [[]] * 6, [])

    def test_the_first_part_that_has_none(self):
        two = Work(INVERTER.wires(), INVERTER.parts() + [("p", [("same", "a", "b")])])
        for thing in wrong_parts():
            self.refused(NoWays, {"part": 0}, INVERTER, [thing], [])
            self.refused(NoWays, {"part": 0}, two, [thing, None], None)
            self.refused(NoWays, {"part": 1}, two, STUCK + [thing], [])

    def test_no_looks_behind_no_ways(self):
        for thing in odd_things() + [(), tuple(BOTH)]:
            if thing.__class__ is not list:
                self.refused(NoLook, {"number": None}, INVERTER, STUCK, thing)
            self.refused(NoLook, {"number": 2}, INVERTER, STUCK, BOTH + [thing, None])
        for look in [("is", "a", 2), ("is", "inv", 0), ("was", "a", 0), ["is", "a", 0], ("is", "a"), ("is", "a", True)]:
            self.refused(NoLook, {"number": 0}, INVERTER, STUCK, [look])
        self.refused(NoWays, {"part": 0}, INVERTER, [None], [None])

    def test_too_many_behind_no_ways_and_no_looks(self):
        six = Work(FIVE.wires(), FIVE.parts() + [("u", [("same", "b", "b")])])
        ways = [THREE] * 5 + [[((1, 2), [])]]
        self.refused(TooMany, {"many": 1024}, six, ways, [])
        self.refused(TooMany, {"many": 1024}, six, [THREE] * 6, UNMET)
        self.refused(NoLook, {"number": 0}, six, ways, [None])
        self.refused(NoLook, {"number": None}, six, ways, None)
        self.refused(NoWays, {"part": 5}, six, ways[:5] + [[((1, 1), [])]], None)
        seven = Work(FIVE.wires(), six.parts() + [("v", [("same", "b", "b")])])
        some = [THREE[:2]] * 6 + [[]]
        self.assertEqual(len(chances(seven, some, [])), 729)
        # 729 modes by six parts with two ways each; one way more is too many.
        self.refused(TooMany, {"many": 1024}, seven, some[:6] + [THREE[:1]], [])

    def test_what_is_refused_stays_as_it_was(self):
        ways, looks = copy.deepcopy(STUCK), [*BOTH, None]
        self.assertRaises(NoLook, chances, INVERTER, ways, looks)
        self.assertEqual((ways, looks), (STUCK, [*BOTH, None]))


if __name__ == "__main__":
    unittest.main()
