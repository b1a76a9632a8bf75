"""Plans of looks: what to look at next, so that fewest looks are needed at worst, or on the mean."""

from leastblame.blames import broken
from leastblame.cases import with_value
from leastblame.chances import account_weights, check_many, check_ways
from leastblame.clashes import outside
from leastblame.errors import NoWires, NoWorlds
from leastblame.fractions import fraction
from leastblame.ties import are_wires, whole_within
from leastblame.works import check_work
from leastblame.worlds import all_worlds, check_looks, is_lot, sound_in


def accounts(work, looks):
    """All accounts (lot, world) of the looks, sorted by lots, then worlds."""
    rows = {lot: [] for lot in broken(work, looks)}
    for world in all_worlds(work, (), looks):
        # Were only some parts of a lot not sound in an account's world, these would explain, and it weren't least.
        lot = outside(work, sound_in(work, world))
        if lot in rows:
            rows[lot].append((lot, world))
    return [row for lot in rows for row in rows[lot]]


def is_plan(work, looks, open_wires, thing):
    """Whether the thing, of any kind, is a plan of the looks and open wires."""
    check_asked(work, looks, open_wires)
    return plan_stands(work, open_numbers(work, open_wires), accounts(work, looks), thing)


def worst_plan(work, looks, open_wires):
    """A plan with the least worst, as (worst, plan)."""
    check_asked(work, looks, open_wires)
    return Search(work, open_wires, None).told(accounts(work, looks))


def mean_plan(work, looks, open_wires, *, ways=None):
    """A plan with the least mean, as (mean, plan): each account as likely, or by ways."""
    check_asked(work, looks, open_wires)
    if ways is not None:
        check_ways(work, ways)
        check_many(ways)
    rows = accounts(work, looks)
    weights = {tuple(world): 1 for lot, world in rows} if ways is None else account_weights(work, ways, rows)
    whole = sum(weights.values())
    if rows and whole == 0:
        raise NoWorlds()
    cost, plan = Search(work, open_wires, weights).told(rows)
    return (fraction(cost, whole) if rows else (0, 1), plan)


def check_asked(work, looks, open_wires):
    """Refuse what is no work, what are no looks, what are no open wires."""
    check_work(work)
    check_looks(work, looks)
    check_open(work, open_wires)


def check_open(work, open_wires):
    """Refuse with NoWires what are no open wires of the work."""
    if not isinstance(open_wires, list) or not are_wires(open_wires, work.wire_places):
        raise NoWires()
    if open_wires != sorted(set(open_wires)):
        raise NoWires()


def open_numbers(work, open_wires):
    """The numbers of the open wires, rising."""
    return sorted([work.wire_number(name) for name in open_wires])


def settled(rows, numbers):
    """Whether any two of the accounts with unlike lots have the same values of the wires with these numbers."""
    # With two lots each account has the values of all those with the other lot: so all have the same.
    return all_alike([row[0] for row in rows]) or all_alike([values_at(row, numbers) for row in rows])


def all_alike(things):
    """Whether all the things are alike."""
    for thing in things:
        if thing != things[0]:
            return False
    return True


def values_at(row, numbers):
    """The values that the wires with these numbers have in the account."""
    return [row[1][number] for number in numbers]


def parted(rows, number):
    """The accounts by the value that the wire with this number has in them, as tuples (value, accounts), rising."""
    found = {}
    for row in rows:
        found.setdefault(row[1][number], []).append(row)
    return [(value, found[value]) for value in sorted(found)]


def lots_once(rows):
    """The lots of the accounts, each once, in order."""
    return list({row[0]: True for row in rows})


def without(wires, wire):
    """The wires but for this one."""
    return [other for other in wires if other != wire]


def plan_stands(work, numbers, rows, thing):
    """Whether the thing is a plan of the accounts; numbers are those of the open wires not yet looked at."""
    if not isinstance(thing, tuple) or not thing or not isinstance(thing[0], str):
        return False
    # The wires looked at have one value each in these accounts, so those left alone tell whether they are settled.
    if settled(rows, numbers):
        return thing[0] == "done" and len(thing) == 2 and are_lots(work, thing[1], lots_once(rows))
    return thing[0] == "look" and len(thing) == 3 and branches_stand(work, numbers, rows, thing[1], thing[2])


def are_lots(work, thing, lots):
    """Whether the thing, of any kind, is a list of just these lots."""
    return isinstance(thing, list) and all([is_lot(work, lot) for lot in thing]) and thing == lots


def branches_stand(work, numbers, rows, wire, branches):
    """Whether the wire is one of those left, and the branches a list with a plan for each of its values."""
    if not isinstance(wire, str) or work.wire_places.get(wire) not in numbers or not isinstance(branches, list):
        return False
    number = work.wire_number(wire)
    groups = parted(rows, number)
    if len(branches) != len(groups):
        return False
    left = without(numbers, number)
    return all([branch_stands(work, left, some, value, branch) for branch, (value, some) in zip(branches, groups)])


def branch_stands(work, numbers, rows, value, thing):
    """Whether the thing is a tuple of this value and a plan of these accounts."""
    if not isinstance(thing, tuple) or len(thing) != 2 or not whole_within(thing[0], value, value):
        return False
    return plan_stands(work, numbers, rows, thing[1])


class Search:
    """The least costs of plans: the worst, or, where there are weights by worlds, the weighed sum of looks.

    What was reckoned is kept by what was looked at: the same accounts are come to by looks in any order.
    """

    def __init__(self, work, open_wires, weights):
        self.wire_pairs = work.wires()
        # In the wires' own order, so that plans are alike whatever the wires are called.
        self.open_now = open_numbers(work, open_wires)
        self.weights = weights
        self.known = {}

    def told(self, rows):
        """The least cost of the accounts, and a plan that has it."""
        nothing = self.nothing_looked_at()
        return (self.least(rows, nothing)[0], self.plan(rows, nothing))

    def nothing_looked_at(self):
        """For each wire None: it has not been looked at."""
        return [None for pair in self.wire_pairs]

    def least(self, rows, looked):
        """The least cost of the accounts, and the number of the wire that is looked at first, None where none is."""
        key = tuple(looked)
        if key not in self.known:
            self.known[key] = self.reckoned(rows, looked)
        return self.known[key]

    def reckoned(self, rows, looked):
        """What least tells, reckoned anew."""
        left = [number for number in self.open_now if looked[number] is None]
        if settled(rows, left):
            return (0, None)
        # A wire that has one value in all accounts is a look more for nothing.
        groups = [(number, parted(rows, number)) for number in left]
        return min([(self.cost(rows, number, looked, some), number) for number, some in groups if len(some) > 1])

    def cost(self, rows, number, looked, groups):
        """The least cost where the wire with this number, by which the accounts part so, is looked at first."""
        below = [self.least(some, with_value(looked, number, value))[0] for value, some in groups]
        if self.weights is None:
            return 1 + max(below)
        return sum([self.weights[tuple(row[1])] for row in rows]) + sum(below)

    def plan(self, rows, looked):
        """A plan with the least cost, made anew at each place."""
        number = self.least(rows, looked)[1]
        if number is None:
            return ("done", lots_once(rows))
        branches = [(value, self.plan(some, with_value(looked, number, value))) for value, some in parted(rows, number)]
        return ("look", self.wire_pairs[number][0], branches)
