"""[12.1] and [12.2]: a bench, its deeds, what it tells, and supposing."""

import copy
import random
import unittest

from leastblame.bench import Bench
from leastblame.blames import broken
from leastblame.clashes import clashing
from leastblame.errors import Bare, NoLook, NoNumber, NoPart, NoRow, NoWire, NoWires, NoWork
from leastblame.labels import label_row
from leastblame.plans import worst_plan
from leastblame.works import Work

from helpers import Refusing, fields_of, odd_things, some_looks, some_tie
from planning import ROW, ROW_PARTS, ROW_SEEN, ROW_WIRES, WRONG_OPEN, row_of, some_faults

SAME = [("same", "b", "a")]


def seen(looks, work=ROW):
    """A bench of the work on which these looks were seen."""
    bench = Bench(work)
    for look in looks:
        bench.see(*look)
    return bench


def state(bench):
    """All that the bench tells, but for its log."""
    wires = [name for name, _ in bench.work().wires()]
    return (bench.work(), bench.looks(), len(bench), bench.clashing(), bench.broken(),
            [bench.lots(name) for name in wires], bench.next_look(sorted(wires)))


def told_anew(work, looks):
    """What a bench tells that has the work and looks."""
    wires = [name for name, _ in work.wires()]
    plan = worst_plan(work, looks, sorted(wires))[1]
    return (work, looks, len(looks), clashing(work, looks), broken(work, looks),
            [label_row(work, looks, name) for name in wires], plan[1] if plan[0] == "look" else None)


class Deeds(unittest.TestCase):
    def test_none_at_first(self):
        bench = Bench(work=ROW)
        self.assertEqual((bench.work(), bench.looks(), len(bench), bench.log()), (ROW, [], 0, []))
        self.assertEqual(state(bench), told_anew(ROW, []))
        self.assertEqual(Bench(Work([("a", 2)])).broken(), [()])

    def test_seen(self):
        bench = Bench(ROW)
        self.assertIs(bench.see("is", "a", 0), None)
        self.assertIs(bench.see(value=1, wire="d", word="isnt"), None)
        self.assertIs(bench.see("is", "a", 0), None)
        self.assertEqual((bench.looks(), len(bench)), ([("is", "a", 0), ("isnt", "d", 1), ("is", "a", 0)], 3))
        self.assertEqual(bench.work(), ROW)

    def test_taken_away(self):
        bench = seen([("is", "a", 0), ("is", "b", 1), ("is", "c", 1), ("is", "d", 1)])
        self.assertEqual(bench.take(1), ("is", "b", 1))
        self.assertEqual(bench.looks(), [("is", "a", 0), ("is", "c", 1), ("is", "d", 1)])
        self.assertEqual(bench.take(number=2), ("is", "d", 1))
        self.assertEqual(bench.take(0), ("is", "a", 0))
        self.assertEqual((bench.take(0), bench.looks()), (("is", "c", 1), []))
        self.assertEqual(state(bench), told_anew(ROW, []))

    def test_exchanged(self):
        bench = seen(ROW_SEEN)
        self.assertEqual(bench.broken(), [(0,), (1,), (2,)])
        self.assertIs(bench.exchange("pc", [("turned", "c", "b"), ("rows", ("c", "b"), ((0, 1), (1, 0)))]), None)
        self.assertEqual(bench.work(), Work(ROW_WIRES, [
            ROW_PARTS[0], ("pc", [("turned", "c", "b"), ("rows", ("c", "b"), ((0, 1), (1, 0)))]), ROW_PARTS[2]]))
        self.assertEqual((bench.looks(), bench.broken()), (ROW_SEEN, [()]))
        self.assertIs(bench.exchange(ties=[("same", "c", "b")], part="pc"), None)
        self.assertEqual(bench.work(), ROW)
        self.assertEqual(ROW, Work(ROW_WIRES, ROW_PARTS))

    def test_each_deed_taken_back(self):
        bench, states = Bench(ROW), []
        for deed in [lambda: bench.see("is", "a", 0), lambda: bench.see("is", "d", 1), lambda: bench.see("isnt", "c", 0),
                     lambda: bench.take(1), lambda: bench.exchange("pb", [("fixed", "b", 1)]), lambda: bench.take(0),
                     lambda: bench.exchange("pb", [("same", "b", "a")]), lambda: bench.see("is", "d", 1), lambda: bench.take(0)]:
            states.append(state(bench))
            deed()
            self.assertNotEqual(state(bench), states[-1])
        while states:
            self.assertIs(bench.back(), None)
            self.assertEqual(state(bench), states.pop())
        self.assertRaises(Bare, bench.back)
        self.assertEqual(bench, Bench(ROW))

    def test_a_deed_taken_back_does_not_stand(self):
        bench = Bench(ROW)
        bench.see("is", "a", 0)
        bench.see("is", "b", 1)
        bench.back()
        bench.see("is", "c", 1)
        bench.back()
        bench.back()
        self.assertEqual(bench.looks(), [])
        self.assertRaises(Bare, bench.back)
        bench.see("is", "d", 1)
        self.assertEqual(bench.looks(), [("is", "d", 1)])

    def test_a_look_taken_away_amid_others_comes_back_to_its_place(self):
        looks = [("is", "a", 0), ("is", "b", 1), ("is", "c", 1)]
        for number in range(3):
            bench = seen(looks)
            bench.take(number)
            bench.back()
            self.assertEqual(bench.looks(), looks)

    def test_alike(self):
        one, other = seen(ROW_SEEN), seen(ROW_SEEN[:1])
        self.assertFalse(one == other)
        self.assertTrue(one != other)
        other.see(*ROW_SEEN[1])
        self.assertTrue(one == other)
        other.take(0)
        other.see(*ROW_SEEN[0])
        # The same looks, in another order: not alike.
        self.assertFalse(one == other)
        other.back()
        other.back()
        self.assertTrue(one == other)
        one.exchange("pb", [("turned", "b", "a")])
        self.assertFalse(one == other)
        other.exchange("pb", [("turned", "b", "a")])
        self.assertTrue(one == other)
        # Of deeds and logs nothing hangs.
        one.suppose([], "broken")
        one.see("is", "a", 0)
        one.back()
        self.assertTrue(one == other)

    def test_like_nothing_else(self):
        for bench, thing in [(Bench(ROW), ROW), (Bench(ROW), []), (seen(ROW_SEEN), ROW_SEEN), (Bench(ROW), None),
                             (Bench(ROW), Bench(Work(ROW_WIRES)))]:
            self.assertIs(bench == thing, False)
            self.assertIs(thing == bench, False)
        for thing in odd_things():
            if thing.__class__.__name__ not in ("Agreeable", "Prickly"):
                self.assertIs(Bench(ROW) == thing, False)
        self.assertIs(Bench(ROW).__eq__(object()), False)

    def test_a_twin_goes_on_by_itself(self):
        bench = seen(ROW_SEEN)
        bench.exchange("pb", [("fixed", "b", 0)])
        bench.suppose([], "broken")
        twin = bench.twin()
        self.assertIs(twin.__class__, Bench)
        self.assertEqual((twin, state(twin), twin.log()), (bench, state(bench), bench.log()))
        before = state(bench)
        twin.see("is", "b", 1)
        twin.suppose([], "clashing")
        self.assertEqual((state(bench), bench.log()), (before, ["begin", "end"]))
        self.assertEqual(twin.log(), ["begin", "end"] * 2)
        # The deeds that stood ahead of it can be taken back in both.
        bench.back()
        self.assertEqual(bench.work(), ROW)
        self.assertEqual((twin.looks(), twin.work() == ROW), (ROW_SEEN + [("is", "b", 1)], False))
        for _ in range(4):
            twin.back()
        self.assertRaises(Bare, twin.back)
        self.assertEqual((twin.looks(), twin.work()), ([], ROW))
        self.assertEqual(bench.looks(), ROW_SEEN)
        for _ in range(2):
            bench.back()
        self.assertRaises(Bare, bench.back)

    def test_many_deeds(self):
        chance = random.Random(141)
        for wires, parts, looks in some_faults(chance, 12):
            work = Work(wires, parts)
            bench, stood, now = Bench(work), [], (work, [])
            for _ in range(40):
                deed = chance.choice(["see", "see", "take", "exchange", "back"])
                if deed == "see":
                    look = (some_looks(chance, wires, 3) or [looks[0]])[0]
                    bench.see(*look)
                    stood, now = stood + [now], (now[0], now[1] + [look])
                elif deed == "take" and now[1]:
                    at = chance.randrange(len(now[1]))
                    self.assertEqual(bench.take(at), now[1][at])
                    stood, now = stood + [now], (now[0], now[1][:at] + now[1][at + 1:])
                elif deed == "exchange":
                    at = chance.randrange(len(parts))
                    ties = [some_tie(chance, wires) for _ in range(chance.randint(1, 2))]
                    bench.exchange(parts[at][0], ties)
                    changed = now[0].parts()
                    changed[at] = (parts[at][0], ties)
                    stood, now = stood + [now], (Work(wires, changed), now[1])
                elif deed == "back" and stood:
                    bench.back()
                    now = stood.pop()
                self.assertEqual((bench.work(), bench.looks(), len(bench)), (*now, len(now[1])))
            self.assertEqual(state(bench), told_anew(*now))
            self.assertEqual(bench, seen(now[1], now[0]))
            self.assertEqual(state(bench.twin()), told_anew(*now))


class Told(unittest.TestCase):
    def test_by_hand(self):
        bench = seen(ROW_SEEN)
        self.assertEqual(bench.clashing(), [(0, 1, 2)])
        self.assertEqual(bench.broken(), [(0,), (1,), (2,)])
        self.assertEqual(bench.lots("b"), [[(0,)], [(1, 2)]])
        self.assertEqual(bench.lots(wire="a"), [[()], []])
        self.assertIn(bench.next_look(["b", "c"]), ("b", "c"))
        self.assertEqual(bench.next_look(["c"]), "c")
        self.assertIs(bench.next_look([]), None)
        self.assertIs(bench.next_look(open_wires=["a", "d"]), None)
        self.assertIs(Bench(ROW).next_look(["a", "b"]), None)
        wires, parts, looks = row_of(7)
        self.assertIn(seen(looks, Work(wires, parts)).next_look(list("bcdefg")), ("d", "e"))

    def test_the_wire_is_that_of_the_told_plan(self):
        for wires, parts, looks in some_faults(random.Random(142), 40):
            names = sorted(name for name, _ in wires)
            plan = worst_plan(Work(wires, parts), looks, names)[1]
            self.assertEqual(seen(looks, Work(wires, parts)).next_look(names), plan[1] if plan[0] == "look" else None)


class Supposed(Refusing, unittest.TestCase):
    def test_by_hand(self):
        bench = seen(ROW_SEEN)
        before = state(bench)
        self.assertEqual(bench.suppose([("is", "b", 0)], "broken"), [(1,), (2,)])
        self.assertEqual(bench.suppose(question="clashing", looks=[("is", "b", 0), ("is", "c", 0)]), [(2,)])
        self.assertEqual(bench.suppose([("is", "b", 0)], "next", open_wires=["b", "c"]), "c")
        self.assertEqual(bench.suppose([("is", "b", 0)], "next", open_wires=("b", "c")), "c")
        self.assertIs(bench.suppose([("is", "b", 1)], "next", open_wires=["c"]), None)
        self.assertIs(bench.suppose([], "next"), None)
        self.assertEqual(bench.suppose([("is", "a", 1)], "broken"), [])
        self.assertEqual(bench.log(), ["begin", "end"] * 7)
        self.assertEqual(state(bench), before)
        bench.back()
        self.assertEqual(bench.looks(), ROW_SEEN[:1])

    def test_open_wires_are_looked_at_for_next_alone(self):
        bench = seen(ROW_SEEN)
        for thing in odd_things():
            self.assertEqual(bench.suppose([], "broken", open_wires=thing), [(0,), (1,), (2,)])
            self.assertEqual(bench.suppose([], "clashing", open_wires=thing), [(0, 1, 2)])

    def test_as_of_all_looks_together(self):
        chance = random.Random(143)
        for wires, parts, looks in some_faults(chance, 30):
            work, more = Work(wires, parts), some_looks(chance, wires, 3)
            names = sorted(name for name, _ in wires)
            bench, whole = seen(looks, work), seen(looks + more, work)
            self.assertEqual(bench.suppose(more, "clashing"), whole.clashing())
            self.assertEqual(bench.suppose(more, "broken"), whole.broken())
            self.assertEqual(bench.suppose(more, "next", open_wires=names), whole.next_look(names))
            self.assertEqual(bench, seen(looks, work))

    def refused(self, error, fields, looks, question, **named):
        bench = seen(ROW_SEEN)
        bench.suppose([], "broken")
        before = state(bench)
        self.refused_so(error, fields, bench.suppose, looks, question, **named)
        self.assertEqual((state(bench), bench.log()), (before, ["begin", "end"] * 2))
        bench.back()
        self.assertEqual(bench.looks(), ROW_SEEN[:1])

    def test_no_question(self):
        for thing in odd_things() + ["Clashing", "clash", "next ", "log", "lots", ("next",), ["next"], b"next", "take"]:
            for looks in ([], None, [None]):
                self.refused(NoRow, {}, looks, thing)
                self.refused(NoRow, {}, looks, thing, open_wires=None)

    def test_no_looks(self):
        for question in ("clashing", "broken", "next"):
            for thing in odd_things() + [(), tuple(ROW_SEEN), ROW_SEEN[0][:2]]:
                if thing.__class__ is not list:
                    self.refused(NoLook, {"number": None}, thing, question)
                    self.refused(NoLook, {"number": None}, thing, question, open_wires=None)
                # Numbered as they are handed in, whatever looks are ahead.
                self.refused(NoLook, {"number": 1}, [("is", "b", 1), thing, None], question, open_wires=None)

    def test_no_open_wires(self):
        for thing in odd_things() + WRONG_OPEN + [("c", "b"), ("b", "b"), ("z",), ("b", None)]:
            told = list(thing) if thing.__class__ is tuple else thing
            if told.__class__ is list and all(name.__class__ is str and name in dict(ROW_WIRES) for name in told):
                if told == sorted(set(told)):
                    continue
            self.refused(NoWires, {}, [], "next", open_wires=thing)
            self.refused(NoWires, {}, [("is", "a", 1)], "next", open_wires=thing)

    def test_by_names_alone(self):
        self.assertRaises(TypeError, Bench(ROW).suppose, [], "next", ["b"])


class Refused(Refusing, unittest.TestCase):
    def refused(self, bench, error, fields, call):
        """It is refused so, and nothing has changed."""
        before = (state(bench), bench.log())
        self.refused_so(error, fields, call)
        self.assertEqual((state(bench), bench.log()), before)

    def test_no_work(self):
        for thing in odd_things() + [ROW_WIRES, Work, (ROW,), Bench(ROW)]:
            with self.assertRaises(NoWork) as caught:
                Bench(thing)
            self.assertEqual(fields_of(caught.exception), {"part": "work", "number": None, "tie": None})

    def test_no_look(self):
        bench = seen(ROW_SEEN)
        for thing in odd_things():
            for look in [(thing, "a", 0), ("is", thing, 0), ("is", "a", thing), (thing, thing, thing)]:
                self.refused(bench, NoLook, {"number": 0}, lambda: bench.see(*look))
        for look in [("was", "a", 0), ("is", "z", 0), ("is", "pb", 0), ("is", "a", 2), ("is", "a", -1), ("is", "a", True),
                     ("is", "a", "0"), ("a", "is", 0), ("IS", "a", 0)]:
            self.refused(bench, NoLook, {"number": 0}, lambda: bench.see(*look))

    def test_no_number(self):
        for bench in (seen(ROW_SEEN), Bench(ROW)):
            for thing in odd_things() + [2, 3, -1, -2, "0", (0,), [0], 0.0]:
                with self.assertRaises(NoNumber) as caught:
                    bench.take(thing)
                self.assertEqual(list(fields_of(caught.exception)), ["number"])
                self.assertIs(caught.exception.number, thing)
            self.assertEqual(state(bench), told_anew(ROW, bench.looks()))
        self.assertRaises(NoNumber, Bench(ROW).take, 0)

    def test_no_part(self):
        bench = seen(ROW_SEEN)
        for thing in odd_things() + ["a", "p", "PB", "pb ", ("pb",), 0]:
            for ties in (SAME, None):
                with self.assertRaises(NoPart) as caught:
                    bench.exchange(thing, ties)
                self.assertEqual(list(fields_of(caught.exception)), ["name"])
                self.assertIs(caught.exception.name, thing)
        self.assertEqual(state(bench), told_anew(ROW, ROW_SEEN))

    def test_no_ties(self):
        bench = seen(ROW_SEEN)
        for at, (name, _) in enumerate(ROW_PARTS):
            for thing in odd_things() + [[], (), tuple(SAME), SAME[0][:2], SAME * 25]:
                if thing.__class__ is not list or not 1 <= len(thing) <= 24:
                    self.refused(bench, NoWork, {"part": "parts", "number": at, "tie": None}, lambda: bench.exchange(name, thing))
                self.refused(bench, NoWork, {"part": "ties", "number": at, "tie": 2},
                             lambda: bench.exchange(name, SAME * 2 + [thing, None]))
            for tie in [("same", "b", "z"), ("same", "b"), ("fixed", "b", 4), ["same", "b", "a"], ("rows", ("b", "b"), ())]:
                self.refused(bench, NoWork, {"part": "ties", "number": at, "tie": 0}, lambda: bench.exchange(name, [tie]))
        bench.exchange("pb", SAME * 24)
        self.assertEqual(len(bench.work().parts()[0][1]), 24)

    def test_bare(self):
        bench = Bench(ROW)
        self.refused(bench, Bare, {}, bench.back)
        bench.suppose([], "broken")
        self.assertRaises(NoLook, bench.see, 0, 0, 0)
        self.assertRaises(NoNumber, bench.take, 0)
        self.assertRaises(NoPart, bench.exchange, "z", SAME)
        self.assertRaises(NoWork, bench.exchange, "pb", [])
        # Neither supposing nor what was refused is a deed.
        self.refused(bench, Bare, {}, bench.back)

    def test_no_wire(self):
        bench = seen(ROW_SEEN)
        for thing in odd_things() + ["z", "pb", "A", 0, ("a",), ["a"]]:
            with self.assertRaises(NoWire) as caught:
                bench.lots(thing)
            self.assertEqual(list(fields_of(caught.exception)), ["name"])
            self.assertIs(caught.exception.name, thing)

    def test_no_open_wires(self):
        bench = seen(ROW_SEEN)
        # Here a tuple isn't taken as a list.
        for thing in odd_things() + WRONG_OPEN:
            if thing.__class__ is not list or thing != ["a", "b"]:
                self.refused(bench, NoWires, {}, lambda: bench.next_look(thing))


class Kept(unittest.TestCase):
    def test_what_is_handed_in_is_neither_changed_nor_kept(self):
        bench, ties, looks, names = seen(ROW_SEEN), [("turned", "b", "a")], [("is", "b", 0)], ["b", "c"]
        before = copy.deepcopy((ties, looks, names))
        bench.exchange("pb", ties)
        for question in ("clashing", "broken", "next"):
            bench.suppose(looks, question, open_wires=names)
        bench.next_look(names)
        self.assertEqual((ties, looks, names), before)
        state_before = state(bench)
        ties.append(None)
        looks.clear(), names.clear()
        self.assertEqual(state(bench), state_before)

    def test_what_is_told_is_the_askers_own(self):
        bench = seen(ROW_SEEN)
        bench.suppose([], "broken")
        before = (state(bench), bench.log())
        for tell in (bench.looks, bench.clashing, bench.broken, bench.log, lambda: bench.lots("b"),
                     lambda: bench.suppose([], "broken"), lambda: bench.suppose([], "clashing")):
            for thing in (tell(), tell()):
                for inner in thing:
                    if isinstance(inner, list):
                        inner.clear()
                thing.clear()
        self.assertEqual((state(bench), bench.log()[:2]), before)
        row = bench.lots("b")
        self.assertEqual(len({id(one) for one in [row, *row, *bench.lots("b")]}), 5)

    def test_looks_told_are_not_those_kept_by_a_twin_or_ahead_of_a_deed(self):
        bench = seen(ROW_SEEN)
        twin = bench.twin()
        bench.looks().clear()
        twin.looks().append(None)
        twin.take(0)
        twin.back()
        self.assertEqual((bench.looks(), twin.looks()), (ROW_SEEN, ROW_SEEN))

    def test_methods_stand_in_the_class_itself(self):
        for name in ("see", "take", "exchange", "back", "work", "looks", "clashing", "broken", "lots", "next_look", "suppose",
                     "log", "twin", "__init__", "__len__", "__eq__"):
            self.assertIn(name, vars(Bench))


if __name__ == "__main__":
    unittest.main()
