"""Chances, accounts, plans and foes told a second time, plainly: all modes, worlds and plans gone through one by one."""

import itertools
from fractions import Fraction
from math import gcd

from leastblame.works import Work

from helpers import holds, some_tie, sound_slowly, worlds_slowly
from papers import broken_slowly, fitting_slowly, met_slowly


def row_of(many):
    """Wires, parts and looks of a row of so many parts, just one of which is broken."""
    names = "abcdefgh"[:many + 1]
    parts = [("p" + out, [("same", out, into)]) for into, out in zip(names, names[1:])]
    return [(name, 2) for name in names], parts, [("is", "a", 0), ("is", names[-1], 1)]


ROW_WIRES, ROW_PARTS, ROW_SEEN = row_of(3)
ROW = Work(ROW_WIRES, ROW_PARTS)

# Just one part is not sound by each value of the one wire.
FOUR = Work([("x", 4)], [("p" + name, [("rows", ("x",), tuple((n,) for n in range(4) if n != at))])
                         for at, name in enumerate("abcd")])

UNMET = [("is", "a", 0), ("is", "a", 1)]

# What are no open wires of the row.
WRONG_OPEN = [(), ("b", "c"), ["c", "b"], ["b", "b"], ["b", "c", "c"], ["b", "z"], ["pb"], ["b", None], ["b", 1], "bc",
              {"b": 0}, [["b"]], [("b",)], ["B"], [""], ["b", b"c"], {"b", "c"}, None, 0]


def row_ways(shares):
    """For each part of a row one way with this share, in which it turns what it is told."""
    names = "abcdefgh"
    return [[(share, [("turned", out, into)])] for share, into, out in zip(shares, names, names[1:])]


def odd_or_even(manys):
    """Wires and parts: one part is sound where the values' sum is even, the other where it is odd; no look is spared."""
    names = "abcdefgh"[:len(manys)]
    rows = [[], []]
    for world in itertools.product(*(range(many) for many in manys)):
        rows[sum(world) % 2].append(world)
    parts = [(name, [("rows", tuple(names), tuple(some))]) for name, some in zip(("even", "odd"), rows)]
    return list(zip(names, manys)), parts


def told_fraction(fraction):
    """A Fraction as the tuple that the package tells."""
    return (fraction.numerator, fraction.denominator)


def modes_slowly(wires, parts, ways):
    """All modes with their shares and their worlds, those without a world left out."""
    found = []
    for modes in itertools.product(*(range(len(some) + 1) for some in ways)):
        share, ties = Fraction(1), []
        for part, some, mode in zip(parts, ways, modes):
            shares = [Fraction(*told) for told, _ in some]
            share *= shares[mode - 1] if mode else 1 - sum(shares)
            ties += some[mode - 1][1] if mode else part[1]
        worlds = [world for world in worlds_slowly(wires) if all(
            holds(tie, {name: value for (name, _), value in zip(wires, world)}, dict(wires)) for tie in ties)]
        if worlds:
            found.append((modes, share, worlds))
    return found


def chances_slowly(wires, parts, ways, looks):
    """A dict of the shares by modes, behind the looks; it is empty where no world meets them."""
    shares = {}
    for modes, share, worlds in modes_slowly(wires, parts, ways):
        for world in worlds:
            if met_slowly(wires, looks, world):
                shares[modes] = shares.get(modes, 0) + share / len(worlds)
    whole = sum(shares.values())
    return {modes: share / whole for modes, share in shares.items()}


def accounts_slowly(wires, parts, looks):
    everything = set(range(len(parts)))
    fitting = fitting_slowly(wires, parts, looks)
    return [(lot, world) for lot in broken_slowly(wires, parts, looks)
            for world, sound in fitting if everything - set(lot) <= sound]


def account_shares_slowly(wires, parts, ways, looks):
    """The share of each account, in order, or None where they come to nought; alike ones where ways is None."""
    rows = accounts_slowly(wires, parts, looks)
    if ways is None:
        return [Fraction(1, len(rows)) for _ in rows]
    found = modes_slowly(wires, parts, ways)
    shares = [sum((share / len(worlds) for modes, share, worlds in found
                   if lot == tuple(p for p, mode in enumerate(modes) if mode) and world in worlds), Fraction(0))
              for lot, world in rows]
    whole = sum(shares)
    return [share / whole for share in shares] if whole else None


def settled_slowly(rows, places):
    return all(one[0] == other[0] or all(one[1][at] == other[1][at] for at in places)
               for one, other in itertools.combinations(rows, 2))


class Asked:
    """A work with looks and open wires; it tells all its plans, and judges plans and foes."""

    def __init__(self, wires, parts, looks, open_wires):
        self.rows = accounts_slowly(wires, parts, looks)
        self.at = {name: number for number, (name, _) in enumerate(wires)}
        self.open_wires = open_wires
        self.places = [self.at[name] for name in open_wires]
        self.order = {lot: number for number, lot in enumerate(broken_slowly(wires, parts, looks))}

    def lots(self, rows):
        return sorted({lot for lot, _ in rows}, key=self.order.get)

    def values(self, rows, wire):
        return sorted({world[self.at[wire]] for _, world in rows})

    def with_value(self, rows, wire, value):
        return [row for row in rows if row[1][self.at[wire]] == value]

    def plans(self, rows=None, left=None):
        """All plans, of the accounts and open wires left."""
        rows = self.rows if rows is None else rows
        left = self.open_wires if left is None else left
        if settled_slowly(rows, self.places):
            yield ("done", self.lots(rows))
            return
        for wire in left:
            rest = [other for other in left if other != wire]
            values = self.values(rows, wire)
            for below in itertools.product(*(
                    list(self.plans(self.with_value(rows, wire, value), rest)) for value in values)):
                yield ("look", wire, list(zip(values, below)))

    def needs(self, plan, world):
        """How many looks the plan needs where the world is so, and the lots that it ends with."""
        many = 0
        while plan[0] == "look":
            plan = dict(plan[2])[world[self.at[plan[1]]]]
            many += 1
        return many, plan[1]

    def worst(self, plan):
        return max((self.needs(plan, world)[0] for _, world in self.rows), default=0)

    def mean(self, plan, shares):
        return sum((share * self.needs(plan, world)[0] for share, (_, world) in zip(shares, self.rows)), Fraction(0))

    def is_plan(self, thing, rows=None, left=None):
        rows = self.rows if rows is None else rows
        left = self.open_wires if left is None else left
        if thing.__class__ is not tuple or not thing or thing[0].__class__ is not str:
            return False
        if settled_slowly(rows, self.places):
            return len(thing) == 2 and thing[0] == "done" and plain_like(thing[1], self.lots(rows))
        if len(thing) != 3 or thing[0] != "look" or thing[1].__class__ is not str or thing[1] not in left:
            return False
        wire, branches = thing[1:]
        if branches.__class__ is not list or any(row.__class__ is not tuple or len(row) != 2 for row in branches):
            return False
        if not plain_like([value for value, _ in branches], self.values(rows, wire)):
            return False
        rest = [other for other in left if other != wire]
        return all(self.is_plan(plan, self.with_value(rows, wire, value), rest) for value, plan in branches)

    def is_foe(self, number, thing, rows=None, left=None):
        rows = self.rows if rows is None else rows
        left = self.open_wires if left is None else left
        if thing.__class__ is not tuple or not thing or thing[0].__class__ is not str:
            return False
        if number == 0:
            return len(thing) == 3 and thing[0] == "pair" and self.is_pair(rows, *thing[1:])
        if len(thing) != 2 or thing[0] != "foe" or thing[1].__class__ is not list or not left:
            return False
        if any(row.__class__ is not tuple or len(row) != 3 for row in thing[1]):
            return False
        if not plain_like([wire for wire, _, _ in thing[1]], left):
            return False
        return all(value.__class__ is int and self.is_foe(
            number - 1, foe, self.with_value(rows, wire, value), [other for other in left if other != wire])
            for wire, value, foe in thing[1])

    def is_pair(self, rows, one, other):
        return (any(plain_like(one, row) for row in rows) and any(plain_like(other, row) for row in rows)
                and one[0] != other[0] and not settled_slowly([one, other], self.places))


def plain_like(thing, right):
    """Whether the thing is of the same kind throughout as the right one, and like it."""
    if thing.__class__ is not right.__class__:
        return False
    if right.__class__ in (list, tuple):
        return len(thing) == len(right) and all(plain_like(one, other) for one, other in zip(thing, right))
    return thing == right


def some_share(chance, left):
    """A share below what is left."""
    bottom = chance.choice([2, 3, 4, 5, 6, 7, 10, 12, 100, 997])
    top = chance.randrange(1, bottom)
    share = Fraction(top, bottom)
    while share >= left:
        share /= chance.choice([2, 3, 5])
    return share


def some_ways(chance, wires, parts, most=3):
    """Right ways of the parts."""
    ways = []
    for _ in parts:
        left, some = Fraction(1), []
        for _ in range(chance.randint(0, most)):
            share = some_share(chance, left)
            left -= share
            some.append((told_fraction(share), [some_tie(chance, wires) for _ in range(chance.choice([0, 1, 1, 1, 2]))]))
        ways.append(some)
    return ways


def is_told_fraction(thing):
    """Whether the thing is a fraction as the package tells it."""
    return (thing.__class__ is tuple and len(thing) == 2 and all(number.__class__ is int for number in thing)
            and thing[0] >= 0 and thing[1] >= 1 and gcd(*thing) == 1)


def some_live_row(chance):
    """Wires and parts: each part makes a wire of the one ahead of it, so that whatever is broken shows further on."""
    many = chance.choice([2, 2, 2, 3])
    names = list("abcdefgh")[:chance.randint(4, 6)]
    parts = []
    for at in range(1, len(names)):
        word = chance.choice(["same", "turned", "sum", "most"])
        told = [names[at - 1]] + ([chance.choice(names[:at])] if word in ("sum", "most") else [])
        parts.append(("p" + names[at], [(word, names[at], *told)]))
    chance.shuffle(parts)
    return [(name, many) for name in names], parts


def some_faults(chance, many):
    """So many rows, as (wires, parts, looks), looked at where a part or two are broken."""
    found = []
    while len(found) < many:
        wires, parts = some_live_row(chance)
        broken = chance.choice([1, 1, 2])
        worlds = [world for world in worlds_slowly(wires) if len(sound_slowly(wires, parts, world)) == len(parts) - broken]
        if worlds:
            world = chance.choice(worlds)
            seen = sorted({0, len(wires) - 1, chance.choice([0, len(wires) // 2])})
            found.append((wires, parts, [("is", wires[at][0], world[at]) for at in seen]))
    return found
