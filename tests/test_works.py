"""[1.1] and [1.2]: works, and what is none."""

import unittest

from leastblame.errors import NoPart, NoWire, NoWork
from leastblame.works import Work

from helpers import TIES, WIRES, Agreeable, fields_of, odd_things, some_works

PART = ("p", [("fixed", "a", 0)])
LETTERS = "abcdefghijklmnopqrstuvwxyz"


class Checked(unittest.TestCase):
    def refused(self, part, number, tie, *told, **named):
        with self.assertRaises(NoWork) as caught:
            Work(*told, **named)
        self.assertEqual(fields_of(caught.exception), {"part": part, "number": number, "tie": tie}, (told, named))
        for value in (number, tie):
            self.assertIn(value.__class__, (int, None.__class__))


class Wires(Checked):
    def test_one_to_eight(self):
        for many in range(1, 9):
            wires = [(letter, 2) for letter in LETTERS[:many]]
            self.assertEqual(Work(wires).wires(), wires)
        self.refused("wires", None, None, [])
        self.refused("wires", None, None, [(letter, 2) for letter in LETTERS[:9]])

    def test_too_many_go_ahead_of_wrong_ones(self):
        self.refused("wires", None, None, [None] * 9)

    def test_manys(self):
        for many in (2, 3, 4):
            self.assertEqual(Work([("a", many)]).wires(), [("a", many)])
        for many in (0, 1, 5, -2, True, False, None, "2", 2.0, 10 ** 59, [2], (2,)):
            self.refused("wires", 0, None, [("a", many)])
            self.refused("wires", 1, None, [("b", 2), ("a", many), None])

    def test_manys_times_one_another(self):
        for manys in ([4] * 5 + [2], [2] + [4] * 5, [2] * 5 + [4] * 3, [3] * 6 + [2], [2, 3] + [4] * 4):
            wires = list(zip(LETTERS, manys))
            self.assertEqual(Work(wires).wires(), wires)
        for manys in ([4] * 5 + [3], [3] * 7, [2] * 4 + [4] * 4, [4] * 6, [4] * 8, [3, 3] + [4] * 4):
            self.refused("wires", None, None, list(zip(LETTERS, manys)))

    def test_a_wrong_wire_goes_ahead_of_too_many_worlds(self):
        self.refused("wires", 6, None, [(letter, 4) for letter in "abcdef"] + [("g", 5)])

    def test_names(self):
        for name in ("a", "z", "abcdef", "wire", "fixed"):
            self.assertEqual(Work([(name, 2)]).wires(), [(name, 2)])
        for name in ("", "abcdefg", "A", "aB", "a1", "a b", " a", "a ", "a_b", "a\n", "\u00e4", "\u00df", "\u0430", "{", "`"):
            self.refused("wires", 0, None, [(name, 2)])
            self.refused("wires", 1, None, [("a", 2), (name, 2)])
        for thing in odd_things() + [("a",), ["a"]]:
            self.refused("wires", 0, None, [(thing, 2)])

    def test_names_are_unlike(self):
        self.refused("wires", 1, None, [("a", 2), ("a", 2)])
        self.refused("wires", 2, None, [("a", 2), ("b", 2), ("a", 3), None])
        self.refused("wires", 1, None, [("a", 2), None, ("a", 3)])

    def test_a_wire_is_a_tuple_of_two(self):
        for thing in odd_things() + [["a", 2], ("a",), ("a", 2, 2), (2, "a"), ("a", 2, None), "ab", {"a": 2}]:
            self.refused("wires", 0, None, [thing])
            self.refused("wires", 2, None, [("x", 2), ("y", 2), thing, None])

    def test_anything_else_is_no_list_of_wires(self):
        lists = [thing for thing in odd_things() if isinstance(thing, list) and thing]
        for thing in odd_things():
            if not isinstance(thing, list):
                self.refused("wires", None, None, thing)
                self.refused("wires", None, None, thing, None)
        for thing in lists:
            self.refused("wires", 0, None, thing)

    def test_a_tuple_is_no_list_of_wires(self):
        self.refused("wires", None, None, (("a", 2),))
        self.refused("wires", None, None, ())


class Parts(Checked):
    def test_none_to_seven(self):
        for many in range(8):
            parts = [(letter, [("fixed", "a", 0)]) for letter in LETTERS[:many]]
            work = Work(WIRES, parts)
            self.assertEqual(work.parts(), parts)
            self.assertEqual(len(work), many)
        self.refused("parts", None, None, WIRES, [(letter, [("fixed", "a", 0)]) for letter in LETTERS[:8]])
        self.refused("parts", None, None, WIRES, [None] * 8)

    def test_left_out_there_are_none(self):
        self.assertEqual(Work(WIRES).parts(), [])
        self.assertEqual(Work(WIRES), Work(WIRES, ()))
        self.assertEqual(Work(WIRES), Work(WIRES, []))

    def test_a_tuple_is_taken_as_a_list(self):
        work = Work(WIRES, (PART,))
        self.assertEqual(work, Work(WIRES, [PART]))
        self.assertEqual(work.parts(), [PART])
        self.refused("parts", None, None, WIRES, tuple([(letter, [("fixed", "a", 0)]) for letter in LETTERS[:8]]))
        self.refused("parts", 1, None, WIRES, (PART, PART))
        self.refused("ties", 0, 0, WIRES, (("p", [None]),))

    def test_handed_in_by_name(self):
        self.assertEqual(Work(parts=[PART], wires=WIRES), Work(WIRES, [PART]))

    def test_anything_else_is_no_list_of_parts(self):
        for thing in odd_things():
            if not isinstance(thing, (list, tuple)):
                self.refused("parts", None, None, WIRES, thing)
            elif thing:
                self.refused("parts", 0, None, WIRES, thing)

    def test_a_part_is_a_tuple_of_two(self):
        for thing in odd_things() + [list(PART), PART + (None,), PART[:1], PART[::-1], "pq"]:
            self.refused("parts", 0, None, WIRES, [thing])
            self.refused("parts", 1, None, WIRES, [PART, thing, None])

    def test_names(self):
        for name in ("a", "abcdef", "part"):
            self.assertEqual(Work(WIRES, [(name, PART[1])]).parts(), [(name, PART[1])])
        for name in ["", "abcdefg", "P", "p1", "\u00e4", None, True, 1, ["p"], ("p",), b"p"]:
            self.refused("parts", 0, None, WIRES, [(name, PART[1])])
            self.refused("parts", 1, None, WIRES, [PART, (name, PART[1]), None])

    def test_names_are_unlike_but_for_wires(self):
        self.refused("parts", 1, None, WIRES, [PART, PART])
        self.refused("parts", 2, None, WIRES, [PART, ("q", PART[1]), PART, None])
        self.assertEqual(Work(WIRES, [("a", PART[1]), ("b", PART[1])]).part_number("b"), 1)

    def test_one_to_twenty_four_ties(self):
        for many in (1, 2, 23, 24):
            parts = [("p", [("fixed", "a", 0)] * many)]
            self.assertEqual(Work(WIRES, parts).parts(), parts)
        for ties in ([], [("fixed", "a", 0)] * 25, [None] * 25):
            self.refused("parts", 0, None, WIRES, [("p", ties)])
            self.refused("parts", 1, None, WIRES, [PART, ("q", ties)])

    def test_ties_are_a_list(self):
        for thing in odd_things() + [tuple(PART[1]), PART[1][0]]:
            if not isinstance(thing, list):
                self.refused("parts", 0, None, WIRES, [("p", thing)])
                self.refused("parts", 1, None, WIRES, [PART, ("q", thing)])
            elif thing:
                self.refused("ties", 0, 0, WIRES, [("p", thing)])

    def test_all_parts_are_looked_at_ahead_of_ties(self):
        self.refused("parts", 1, None, WIRES, [("p", [None]), None])
        self.refused("parts", 1, None, WIRES, [("p", [None]), ("q", [])])

    def test_wires_are_looked_at_ahead_of_parts(self):
        self.refused("wires", 0, None, [None], None)
        self.refused("wires", None, None, [("a", 4)] * 9, [("p", [None])])
        self.refused("wires", None, None, [(letter, 4) for letter in "abcdef"], [("p", [None])])


class CheckedTies(Checked):
    def taken(self, tie):
        self.assertEqual(Work(WIRES, [("p", [tie])]).parts(), [("p", [tie])])

    def bent(self, tie):
        self.refused("ties", 0, 0, WIRES, [("p", [tie])])
        self.refused("ties", 1, 2, WIRES, [("p", TIES), ("q", TIES[:2] + [tie, None]), ("r", [None])])


class Ties(CheckedTies):
    def test_each_sort_is_taken(self):
        for tie in TIES:
            self.taken(tie)
        self.assertEqual(Work(WIRES, [("p", TIES)]).parts(), [("p", TIES)])

    def test_wires_may_be_alike(self):
        for tie in [("same", "a", "a"), ("turned", "a", "a"), ("least", "b", "b", "b"), ("most", "b", "b", "b"),
                    ("sum", "b", "b", "b"), ("pick", "a", "a", "a", "a")]:
            self.taken(tie)

    def test_the_first_wrong_tie_is_told(self):
        self.refused("ties", 0, 3, WIRES, [("p", TIES[:3] + [None] + TIES + [None]), ("q", [None])])
        self.refused("ties", 6, 23, WIRES, [(x, TIES) for x in "pqrstu"] + [("v", TIES[:1] * 23 + [()])])

    def test_fixed_numbers(self):
        for number in range(4):
            self.taken(("fixed", "a", number))
        for number in [-1, 4, True, False, None, "1", 1.0, [1], (1,), 10 ** 59, "a"]:
            self.bent(("fixed", "a", number))

    def test_each_place_bent_by_anything(self):
        for tie in TIES:
            for place in range(len(tie)):
                for thing in odd_things() + ["e", "z", [tie[place]], (tie[place],)]:
                    self.bent(tie[:place] + (thing,) + tie[place + 1:])

    def test_too_short_and_too_long(self):
        for tie in TIES:
            for length in range(len(tie)):
                self.bent(tie[:length])
            for more in ("a", 0, None, (), tie[-1]):
                self.bent(tie + (more,))

    def test_a_tie_is_a_tuple(self):
        for tie in TIES:
            self.bent(list(tie))
        for thing in odd_things():
            self.bent(thing)

    def test_words_of_others(self):
        for tie in TIES:
            for other in TIES:
                if len(other) != len(tie) or "rows" in (tie[0], other[0]) or "fixed" in (tie[0], other[0]):
                    if tie[0] != other[0]:
                        self.bent((other[0],) + tie[1:])
        for word in ("Same", "same ", "", "part", "wire", "is", "a"):
            self.bent((word, "a", "b"))

    def test_wires_of_the_work_alone(self):
        self.refused("ties", 0, 0, [("a", 2)], [("p", [("same", "a", "b")])])
        self.refused("ties", 0, 0, [("a", 2)], [("p", [("fixed", "p", 0)])])
        self.refused("ties", 0, 0, [("a", 2)], [("p", [("rows", ("a", "b"), ())])])


class Rows(CheckedTies):
    def test_right_ones(self):
        self.taken(("rows", ("a",), ()))
        self.taken(("rows", ("a",), ((0,), (1,), (2,), (3,))))
        self.taken(("rows", ("d", "c", "b", "a"), ((0, 0, 0, 0), (3, 3, 3, 3))))
        self.taken(("rows", ("a", "b"), ((0, 3), (1, 0))))

    def test_eight_wires(self):
        wires = [(letter, 2) for letter in "abcdefgh"]
        tie = ("rows", tuple("abcdefgh"), ((0,) * 8, (1,) * 8))
        self.assertEqual(Work(wires, [("p", [tie])]).parts(), [("p", [tie])])

    def test_wires_are_a_tuple_of_unlike_names(self):
        for wires in [(), ("a", "a"), ("a", "b", "a"), ["a", "b"], "ab", ("a", "z"), ("a", None), ("a", ["b"]), ("a", ("b",))]:
            self.bent(("rows", wires, ()))
            self.bent(("rows", wires, ((0, 1),)))

    def test_rows_are_a_tuple_of_tuples_of_values(self):
        for rows in [[], [(0, 1)], ([0, 1],), ((0,),), ((0, 1, 2),), ((),), (0, 1), "01", ("01",), ((0, 1), None),
                     ((0, 1), [1, 1]), ((0, 1), (1,)), None, ((0, 1), (1, 0, 0))]:
            self.bent(("rows", ("a", "b"), rows))

    def test_values(self):
        for value in [-1, 4, True, False, None, "1", 1.0, [1], (1,), 10 ** 59]:
            self.bent(("rows", ("a", "b"), ((0, value),)))
            self.bent(("rows", ("a", "b"), ((value, 0),)))
            self.bent(("rows", ("a", "b"), ((0, 0), (1, value))))
            self.bent(("rows", ("a", "b"), ((0, 0), (value, 1))))

    def test_rows_rise(self):
        for rows in [((0, 1), (0, 1)), ((0, 1), (0, 0)), ((1, 0), (0, 3)), ((0, 0), (2, 2), (1, 1)),
                     ((0, 0), (1, 1), (1, 1)), ((0, 0), (1, 1), (0, 0))]:
            self.bent(("rows", ("a", "b"), rows))


class Told(unittest.TestCase):
    def test_what_was_handed_in_is_told(self):
        for wires, parts in some_works(40):
            work = Work(wires, parts)
            self.assertEqual(work.wires(), wires)
            self.assertEqual(work.parts(), parts)
            self.assertEqual(len(work), len(parts))
            self.assertEqual([work.wire_number(name) for name, many in wires], list(range(len(wires))))
            self.assertEqual([work.part_number(name) for name, ties in parts], list(range(len(parts))))

    def test_kinds(self):
        work = Work(WIRES, (("p", TIES),))
        self.assertIs(work.wires().__class__, list)
        self.assertIs(work.parts().__class__, list)
        self.assertIs(work.wires()[0].__class__, tuple)
        self.assertIs(work.parts()[0].__class__, tuple)
        self.assertIs(work.parts()[0][1].__class__, list)
        self.assertIs(work.parts()[0][1][0].__class__, tuple)

    def test_kinds_under_tuple_and_list_are_told_plain(self):
        class Mine(tuple):
            def __repr__(self):
                return "mine"

        class Row(list):
            def __repr__(self):
                return "row"

        tie = Mine(("rows", Mine(("a",)), Mine((Mine((0,)),))))
        work = Work(Row([Mine(("a", 2))]), Row([Mine(("p", Row([tie])))]))
        self.assertEqual(repr(work), "Work([('a', 2)], [('p', [('rows', ('a',), ((0,),))])])")

    def test_numbers_by_name(self):
        work = Work(WIRES, [("x", TIES), ("a", TIES)])
        for method, error, known in ((work.wire_number, NoWire, "abcd"), (work.part_number, NoPart, "xa")):
            self.assertEqual([method(name) for name in known], list(range(len(known))))
            self.assertEqual(method(name=known[-1]), len(known) - 1)
            for thing in odd_things() + ["z", "aa", ["a"], ("a",), 0, 1]:
                with self.assertRaises(error) as caught:
                    method(thing)
                self.assertIs(caught.exception.name, thing)
                self.assertEqual(list(vars(caught.exception)), ["name"])
        with self.assertRaises(NoWire):
            work.wire_number("x")
        with self.assertRaises(NoPart):
            work.part_number("b")
        with self.assertRaises(NoPart):
            Work(WIRES).part_number("a")

    def test_length(self):
        self.assertEqual(len(Work(WIRES)), 0)
        self.assertEqual(len(Work([("a", 2)], [("p", TIES[:1]), ("q", TIES[:1]), ("r", TIES[:1])])), 3)


class Alike(unittest.TestCase):
    def test_alike_where_wires_and_parts_are(self):
        self.assertTrue(Work(WIRES, [PART]) == Work(list(WIRES), (PART,)))
        self.assertFalse(Work(WIRES, [PART]) != Work(list(WIRES), (PART,)))

    def test_unlike_otherwise(self):
        work = Work([("a", 2), ("b", 3)], [("p", [("same", "a", "b")]), ("q", [("fixed", "a", 1)])])
        parts = work.parts()
        for other in [
            Work([("a", 2), ("b", 2)], parts), Work([("b", 3), ("a", 2)], parts),
            Work([("a", 2), ("b", 3), ("c", 2)], parts), Work(work.wires()), Work(work.wires(), parts[:1]),
            Work(work.wires(), parts[::-1]), Work(work.wires(), [("r", parts[0][1]), parts[1]]),
            Work(work.wires(), [("p", [("same", "b", "a")]), parts[1]]),
            Work(work.wires(), [parts[0], ("q", [("fixed", "a", 0)])]),
            Work(work.wires(), [parts[0], ("q", [("fixed", "a", 1)] * 2)]),
        ]:
            self.assertIs(work == other, False)
            self.assertIs(other == work, False)
            self.assertIs(work != other, True)

    def test_like_nothing_else(self):
        work = Work(WIRES, [PART])
        for thing in odd_things() + [work.wires(), (work.wires(), work.parts()), [work.wires(), work.parts()], repr(work)]:
            self.assertIs(work == thing, False)
            self.assertIs(work != thing, True)
        self.assertIs(work == Agreeable(), False)
        self.assertIs(Work(WIRES) == 0, False)


class Shown(unittest.TestCase):
    def test_repr(self):
        self.assertEqual(repr(Work([("a", 2)])), "Work([('a', 2)], [])")
        work = Work([("a", 2), ("b", 3)], (("p", [("same", "a", "b"), ("rows", ("b",), ((0,), (2,)))]),))
        self.assertEqual(
            repr(work), "Work([('a', 2), ('b', 3)], [('p', [('same', 'a', 'b'), ('rows', ('b',), ((0,), (2,)))])])")

    def test_repr_is_made_of_those_of_wires_and_parts(self):
        for wires, parts in some_works(20, seed=2):
            self.assertEqual(repr(Work(wires, parts)), "Work(" + repr(wires) + ", " + repr(parts) + ")")


if __name__ == "__main__":
    unittest.main()
