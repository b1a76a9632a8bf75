"""[0.4] over the whole: closed, over beats, called otherwise, written and read, benches, looks in another order: alike."""

import random
import unittest
from fractions import Fraction

from leastblame.beats import beat_looks, over_beats
from leastblame.bench import Bench
from leastblame.blames import blame_of, broken, is_blame
from leastblame.chances import broken_chances, chances
from leastblame.clashes import clashing
from leastblame.errors import NoWorlds
from leastblame.foes import foe_of, is_foe
from leastblame.labels import is_label, label_of, label_row
from leastblame.naming import called, led_looks, led_lot
from leastblame.plans import accounts, is_plan, mean_plan, worst_plan
from leastblame.stages import closed, lot_closed, lot_opened
from leastblame.works import Work
from leastblame.worktexts import read, shown

from helpers import some_cases
from planning import some_faults, some_ways
from test_naming import some_naming


def cases(many, seed):
    """Works with looks, some of which don't fit, as (work, looks, ways)."""
    chance = random.Random(seed)
    found = []
    for wires, parts, looks in some_faults(chance, many) + some_cases(many // 2, seed):
        if len(wires) <= 7:
            found.append((Work(wires, parts), looks, some_ways(chance, wires, parts, 2 if len(parts) < 4 else 1)))
    return found


def or_none(call, *handed, **named):
    """What is told, or None where no world is left."""
    try:
        return call(*handed, **named)
    except NoWorlds:
        return None


def all_told(work, looks, ways):
    """All lots, chances, accounts and plans, by names."""
    names = sorted(name for name, _ in work.wires())
    return {
        "clashing": clashing(work, looks), "broken": broken(work, looks),
        "labels": [label_row(work, looks, name) for name, _ in work.wires()],
        "chances": or_none(chances, work, ways, looks), "broken chances": or_none(broken_chances, work, ways, looks),
        "accounts": accounts(work, looks), "worst": worst_plan(work, looks, names), "mean": mean_plan(work, looks, names),
        "mean by ways": or_none(mean_plan, work, looks, names, ways=ways), "foe": foe_of(work, looks, names)}


class Led:
    """Leads what was told along by names and an order."""

    def __init__(self, work, wires, order):
        self.work = work
        self.names = dict(zip([name for name, _ in work.wires()], wires or [name for name, _ in work.wires()]))
        self.order = order or list(range(len(work)))

    def tie(self, tie):
        if tie[0] == "rows":
            return ("rows", tuple(self.names[name] for name in tie[1]), tie[2])
        return (tie[0], *(self.names[word] if word.__class__ is str else word for word in tie[1:]))

    def by_order(self, things):
        """The parts' things, each at its part's place."""
        led = list(things)
        for part, thing in enumerate(things):
            led[self.order[part]] = thing
        return led

    def ways(self, ways):
        return self.by_order([[(share, [self.tie(tie) for tie in ties]) for share, ties in some] for some in ways])

    def lots(self, lots):
        return sorted([led_lot(self.work, lot, order=self.order) for lot in lots], key=lambda lot: (len(lot), lot))

    def account(self, account):
        return (led_lot(self.work, account[0], order=self.order), account[1])

    def accounts(self, rows):
        return sorted([self.account(row) for row in rows], key=lambda row: (len(row[0]), row))

    def chances(self, rows):
        return rows and sorted((tuple(self.by_order(modes)), share) for modes, share in rows)

    def plan(self, plan):
        if plan[0] == "done":
            return ("done", self.lots(plan[1]))
        return ("look", self.names[plan[1]], [(value, self.plan(below)) for value, below in plan[2]])

    def counted(self, told):
        return told and (told[0], self.plan(told[1]))

    def foe(self, foe):
        if foe is None:
            return None
        if foe[0] == "pair":
            return ("pair", self.account(foe[1]), self.account(foe[2]))
        return ("foe", sorted([(self.names[wire], value, self.foe(below)) for wire, value, below in foe[1]],
                              key=lambda answer: answer[0]))

    def all_told(self, told):
        return {
            "clashing": self.lots(told["clashing"]), "broken": self.lots(told["broken"]),
            "labels": [[self.lots(lots) for lots in row] for row in told["labels"]],
            "chances": self.chances(told["chances"]),
            "broken chances": told["broken chances"] and self.by_order(told["broken chances"]),
            "accounts": self.accounts(told["accounts"]), "worst": self.counted(told["worst"]),
            "mean": self.counted(told["mean"]), "mean by ways": self.counted(told["mean by ways"]),
            "foe": self.foe(told["foe"])}


class CalledOtherwise(unittest.TestCase):
    def test_all_is_led_along(self):
        chance = random.Random(151)
        for work, looks, ways in cases(60, 151):
            wires, parts, order = some_naming(chance, work)
            other, led = called(work, wires=wires, parts=parts, order=order), Led(work, wires, order)
            told = all_told(other, led_looks(work, looks, wires=wires), led.ways(ways))
            self.assertEqual(told, led.all_told(all_told(work, looks, ways)), (work, looks, wires, order))

    def test_papers_of_one_are_let_by_for_the_other(self):
        chance = random.Random(152)
        for work, looks, ways in cases(40, 152):
            wires, parts, order = some_naming(chance, work)
            other, led = called(work, wires=wires, parts=parts, order=order), Led(work, wires, order)
            seen, names = led_looks(work, looks, wires=wires), sorted(name for name, _ in other.wires())
            told = all_told(work, looks, ways)
            self.assertIs(is_plan(other, seen, names, led.plan(told["worst"][1])), True)
            self.assertIs(is_plan(other, seen, names, led.plan(told["mean"][1])), True)
            if told["foe"]:
                self.assertIs(is_foe(other, seen, names, told["worst"][0] - 1, led.foe(told["foe"])), True)

    def test_called_back(self):
        chance = random.Random(153)
        for work, looks, _ in cases(40, 153):
            wires, parts, order = some_naming(chance, work)
            other = called(work, wires=wires, parts=parts, order=order)
            back = order and [order.index(place) for place in range(len(order))]
            names = [name for name, _ in work.parts()]
            again = called(other, wires=[name for name, _ in work.wires()], order=back,
                           parts=Led(work, wires, order).by_order(names))
            self.assertEqual(again, work)
            self.assertEqual(led_looks(other, led_looks(work, looks, wires=wires), wires=[name for name, _ in work.wires()]), looks)


class LooksInAnotherOrder(unittest.TestCase):
    def test_alike(self):
        chance = random.Random(154)
        for work, looks, ways in cases(50, 154):
            told = all_told(work, looks, ways)
            for other in (looks[::-1], looks + looks, chance.sample(looks, len(looks)) + looks[:1]):
                self.assertEqual(all_told(work, other, ways), told)


class WrittenAndRead(unittest.TestCase):
    def test_alike(self):
        for work, looks, ways in cases(40, 155):
            again = read(shown(work))
            self.assertEqual(again, work)
            self.assertEqual(all_told(again, looks, ways), all_told(work, looks, ways))
            self.assertIs(is_blame(again, looks, blame_of(work, looks)), True)

    def test_works_closed_over_beats_and_called_otherwise(self):
        for work, looks, ways in cases(40, 156):
            wires = [name for name, _ in work.wires()]
            made = [closed(work, [("xyz", (len(work) - 1,))], seen=wires) if len(work) else work,
                    called(work, order=list(range(len(work)))[::-1])]
            if max(len(name) for name in wires) < 6:
                made.append(over_beats(work, [], beats=1))
            for other in made:
                self.assertEqual(read(shown(other)), other)


class ClosedAndOpened(unittest.TestCase):
    def test_stages_of_one_part_with_all_wires_seen_are_the_work_itself(self):
        for work, looks, ways in cases(40, 157):
            stages = [(name, (part,)) for part, (name, _) in enumerate(work.parts())]
            told = closed(work, stages, seen=[name for name, _ in work.wires()])
            self.assertEqual(all_told(told, looks, ways), all_told(work, looks, ways))

    def test_lots(self):
        chance, tried = random.Random(158), 0
        for work, looks, _ in cases(60, 158):
            if len(work) < 3:
                continue
            lot = tuple(sorted(chance.sample(range(len(work)), 2)))
            stages, seen = [("stage", lot)], [wire for _, wire, _ in looks] + [work.wires()[0][0]]
            seen = sorted(set(seen))
            told = closed(work, stages, seen=seen)
            opened = [lot_opened(work, stages, one) for one in clashing(told, looks)]
            # A clashing lot of the closed work, opened, holds one of the work's; and each of the work's is held by one.
            for one in opened:
                self.assertTrue(any(set(other) <= set(one) for other in clashing(work, looks)))
            for one in clashing(work, looks):
                self.assertTrue(any(set(other) <= set(lot_opened(work, stages, lot_closed(work, stages, one))) for other in opened))
            for wire, _ in told.wires():
                for closed_lots, lots in zip(label_row(told, looks, wire), label_row(work, looks, wire)):
                    for one in closed_lots:
                        self.assertTrue(any(set(other) <= set(lot_opened(work, stages, one)) for other in lots))
            # Its accounts, with wires that stay, are those of the least closed lots.
            stay = [number for number, wire in enumerate(work.wires()) if wire in told.wires()]
            least = broken(told, looks)
            rows = {(lot_closed(work, stages, one), tuple(world[at] for at in stay)) for one, world in accounts(work, looks)}
            self.assertTrue({row for row in rows if row[0] in least} <= {(one, tuple(world)) for one, world in accounts(told, looks)})
            tried += 1
        self.assertGreater(tried, 30)


class OverBeats(unittest.TestCase):
    def test_one_beat_with_no_delay_is_the_work_itself(self):
        for work, looks, ways in cases(40, 159):
            names = [name + "a" for name, _ in work.wires()]
            if max(len(name) for name in names) > 6:
                continue
            over, led = over_beats(work, [], beats=1), Led(work, names, None)
            self.assertEqual(over, called(work, wires=names))
            told = all_told(over, beat_looks(work, looks, beat=0), led.ways(ways))
            self.assertEqual(told, led.all_told(all_told(work, looks, ways)))

    def test_beats_with_no_delay_are_apart(self):
        # A lot that clashes at some beat clashes over all; with each beat's chance of what is seen they multiply.
        work = Work([("a", 2), ("b", 2)], [("p", [("same", "b", "a")]), ("q", [("fixed", "a", 0)])])
        over = over_beats(work, [], beats=3)
        looks = beat_looks(work, [("is", "a", 1)], beat=0) + beat_looks(work, [("is", "a", 0), ("is", "b", 1)], beat=2)
        self.assertEqual(clashing(over, looks), [(0,), (1,)])
        self.assertEqual(broken(over, looks), [(0, 1)])
        ways = [[((1, 2), [])], [((1, 4), [])]]
        told = chances(over, ways, looks)
        self.assertEqual(told, [((1, 1), (1, 1))])
        self.assertEqual(sum(Fraction(*share) for _, share in chances(over, ways, [])), 1)
        self.assertEqual(chances(over, ways, []), chances(work, ways, []))


class Benches(unittest.TestCase):
    def test_that_came_to_the_same_looks_by_different_ways(self):
        chance = random.Random(160)
        for work, looks, ways in cases(30, 160):
            straight, winding = Bench(work), Bench(work)
            for word, wire, value in looks:
                straight.see(word, wire, value)
            for number, look in enumerate(looks):
                winding.see("isnt", *chance.choice(work.wires())[:1], 0)
                winding.suppose(looks, "broken")
                winding = winding.twin()
                winding.back()
                if len(work):
                    winding.exchange(work.parts()[0][0], [("fixed", work.wires()[0][0], 3)])
                    winding.see(*look)
                    winding.back()
                    winding.back()
                winding.see(*look)
                winding.see(*look)
                winding.take(number)
            self.assertEqual((winding, winding.looks(), winding.work()), (straight, looks, work))
            names = sorted(name for name, _ in work.wires())
            for bench in (straight, winding):
                self.assertEqual(bench.clashing(), clashing(work, looks))
                self.assertEqual(bench.broken(), broken(work, looks))
                self.assertEqual([bench.lots(name) for name in names], [label_row(work, looks, name) for name in names])
                plan = worst_plan(work, looks, names)[1]
                self.assertEqual(bench.next_look(names), plan[1] if plan[0] == "look" else None)
                self.assertEqual(all_told(bench.work(), bench.looks(), ways), all_told(work, looks, ways))


class PapersAgree(unittest.TestCase):
    def test_told_papers_are_let_by(self):
        for work, looks, _ in cases(30, 161):
            names = sorted(name for name, _ in work.wires())
            self.assertIs(is_blame(work, looks, blame_of(work, looks)), True)
            for name, many in work.wires()[:2]:
                for value in range(many):
                    self.assertIs(is_label(work, looks, (name, value), label_of(work, looks, (name, value))), True)
            worst, plan = worst_plan(work, looks, names)
            self.assertIs(is_plan(work, looks, names, plan), True)
            self.assertIs(is_plan(work, looks, names, mean_plan(work, looks, names)[1]), True)
            if worst:
                self.assertIs(is_foe(work, looks, names, worst - 1, foe_of(work, looks, names)), True)


if __name__ == "__main__":
    unittest.main()
