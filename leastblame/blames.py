"""Broken lots: the least lots whose being broken explains the looks, and the papers that show them."""

from leastblame.cases import is_tree, refuted
from leastblame.clashes import clashing, least_of, meeting, outside
from leastblame.works import check_work
from leastblame.worlds import check_looks, first_world, fits, is_lot


def broken(work, looks):
    """The least lots that explain the looks, sorted: just the least that meet all clashing lots."""
    return meeting(work, clashing(work, looks))


def blame_of(work, looks):
    """A blame (clashes, worlds) of the looks."""
    lots = clashing(work, looks)
    return (clashes_told(work, looks, lots), worlds_told(work, looks, meeting(work, lots)))


def is_blame(work, looks, thing):
    """Whether the thing, of any kind, is a blame of the looks."""
    check_work(work)
    check_looks(work, looks)
    if not isinstance(thing, tuple) or len(thing) != 2:
        return False
    clashes, worlds = thing
    return are_clashes(work, looks, clashes) and are_worlds(work, looks, lots_in(clashes), worlds)


def clashes_told(work, looks, lots):
    """Each of the lots, which clash with the looks, with its tree."""
    return [(lot, refuted(work, lot, looks)[1]) for lot in lots]


def worlds_told(work, looks, lots):
    """Each of the lots, which explain the looks, with a world."""
    return [(lot, first_world(work, outside(work, lot), looks)) for lot in lots]


def are_clashes(work, looks, thing):
    """Whether the thing, of any kind, is a list of least lots that clash, sorted, each with its tree."""
    if not are_led(work, thing, 2) or not are_least(lots_in(thing)):
        return False
    return all([is_tree(work, lot, looks, tree) for lot, tree in thing])


def are_worlds(work, looks, lots, thing):
    """Whether the thing, of any kind, is a list of just the least lots that meet the lots, each with its world."""
    if not are_led(work, thing, 2) or lots_in(thing) != meeting(work, lots):
        return False
    return all([fits(work, outside(work, lot), looks, world) for lot, world in thing])


def are_led(work, thing, length):
    """Whether the thing, of any kind, is a list of tuples of that length, each with a lot first."""
    if not isinstance(thing, list):
        return False
    return all([isinstance(row, tuple) and len(row) == length and is_lot(work, row[0]) for row in thing])


def lots_in(rows):
    """The lots that stand first in the rows."""
    return [row[0] for row in rows]


def are_least(lots):
    """Whether the lots are sorted, and none is within another one."""
    return lots == least_of(lots)
