"""Foes: trees of answers by which no plan needs so few looks at worst."""

from leastblame.cases import with_value
from leastblame.errors import NoNumber
from leastblame.plans import Search, accounts, check_asked, parted, values_at, without
from leastblame.ties import whole_from
from leastblame.worlds import is_lot, is_world


def foe_of(work, looks, open_wires):
    """A foe for one less than the least worst; None where that is 0."""
    check_asked(work, looks, open_wires)
    rows = accounts(work, looks)
    search = Search(work, open_wires, None)
    nothing = search.nothing_looked_at()
    worst = search.least(rows, nothing)[0]
    if worst == 0:
        return None
    return foe_told(search, numbered(work, open_wires), rows, nothing, worst - 1)


def is_foe(work, looks, open_wires, number, thing):
    """Whether the thing, of any kind, is a foe for the number."""
    check_asked(work, looks, open_wires)
    if not whole_from(number, 0):
        raise NoNumber(number)
    return foe_stands(work, numbered(work, open_wires), accounts(work, looks), number, thing)


def numbered(work, open_wires):
    """The open wires, in order, as tuples (name, number)."""
    return [(name, work.wire_number(name)) for name in open_wires]


def foe_told(search, wires, rows, looked, number):
    """A foe for the number, which is less than the least worst of the accounts; the wires are those left."""
    if number == 0:
        one, other = unlike_pair(rows, wires)
        return ("pair", one, other)
    return ("foe", [answer_told(search, wires, rows, looked, number, wire) for wire in wires])


def answer_told(search, wires, rows, looked, number, wire):
    """The foe's answer where this wire is looked at: the first by which so many looks more are needed."""
    name, at = wire
    groups = [(value, some, with_value(looked, at, value)) for value, some in parted(rows, at)]
    value, some, longer = [group for group in groups if search.least(group[1], group[2])[0] >= number][0]
    return (name, value, foe_told(search, without(wires, wire), some, longer, number - 1))


def unlike_pair(rows, wires):
    """Two of the accounts with unlike lots and unlike values of some wire left; there are two such ones."""
    numbers = [number for name, number in wires]
    firsts = {}
    # By worlds, so that the same two are told whatever the parts are called, and in whatever order they stand.
    for row in sorted(rows, key=lambda account: account[1]):
        firsts.setdefault((row[0], tuple(values_at(row, numbers))), row)
    return [(lot, list(world)) for lot, world in first_unlike(list(firsts.values()), numbers)]


def first_unlike(rows, numbers):
    """The first two of the accounts that are unlike, None where there are none."""
    for one in rows:
        for other in rows:
            if are_unlike(one, other, numbers):
                return [one, other]
    return None


def are_unlike(one, other, numbers):
    """Whether the two accounts have unlike lots, and unlike values of some wire with one of these numbers."""
    return one[0] != other[0] and values_at(one, numbers) != values_at(other, numbers)


def foe_stands(work, wires, rows, number, thing):
    """Whether the thing is a foe for the number, of the accounts; the wires are those not yet looked at."""
    if not isinstance(thing, tuple) or not thing or not isinstance(thing[0], str):
        return False
    if number == 0:
        return thing[0] == "pair" and len(thing) == 3 and pair_stands(work, wires, rows, thing[1], thing[2])
    return thing[0] == "foe" and len(thing) == 2 and answers_stand(work, wires, rows, number, thing[1])


def pair_stands(work, wires, rows, one, other):
    """Whether both things are of the accounts, with unlike lots and unlike values of some wire left."""
    # The wires looked at have one value each in these accounts, so only those left can be unlike.
    numbers = [number for name, number in wires]
    return is_among(work, rows, one) and is_among(work, rows, other) and are_unlike(one, other, numbers)


def is_among(work, rows, thing):
    """Whether the thing, of any kind, is one of the accounts."""
    if not isinstance(thing, tuple) or len(thing) != 2 or not is_lot(work, thing[0]) or not is_world(work, thing[1]):
        return False
    return thing in rows


def answers_stand(work, wires, rows, number, answers):
    """Whether the answers are a list with one for each wire left, and some are left."""
    if not isinstance(answers, list) or not wires or len(answers) != len(wires):
        return False
    return all([answer_stands(work, wires, rows, number, wire, thing) for wire, thing in zip(wires, answers)])


def answer_stands(work, wires, rows, number, wire, thing):
    """Whether the thing is an answer (name, value, foe) where this wire is looked at."""
    if not isinstance(thing, tuple) or len(thing) != 3 or not isinstance(thing[0], str) or thing[0] != wire[0]:
        return False
    if not whole_from(thing[1], 0):
        return False
    some = [row for row in rows if row[1][wire[1]] == thing[1]]
    return foe_stands(work, without(wires, wire), some, number - 1, thing[2])
