"""Lots of worths: the least lots by which a wire has a value, and the papers that show them."""

from leastblame.blames import are_clashes, are_least, are_led, are_worlds, clashes_told, lots_in, worlds_told
from leastblame.cases import check_aim, follows, is_tree, opposed
from leastblame.clashes import clashing, least_of, meeting
from leastblame.works import check_work
from leastblame.worlds import check_looks, first_world, fits


def lots_of(work, looks, aim):
    """The least lots by which the aim follows and that don't clash with the looks, sorted."""
    check_asked(work, looks, aim)
    return [lot for lot in clashing(work, opposed(looks, aim)) if first_world(work, lot, looks) is not None]


def label_row(work, looks, wire):
    """For each value of the wire, in order, the list of its lots."""
    check_work(work)
    check_looks(work, looks)
    many = work.wires()[work.wire_number(wire)][1]
    return [lots_of(work, looks, (wire, value)) for value in range(many)]


def label_of(work, looks, aim):
    """A label (lots, clashes, worlds) of the aim."""
    lots = lots_of(work, looks, aim)
    # In a label no lot is within another one: so a clashing lot that holds one of the lots is left out.
    least = clashing(work, opposed(looks, aim))
    clashes = [lot for lot in least if lot not in lots]
    shown = [(lot, follows(work, lot, looks, aim)[1], first_world(work, lot, looks)) for lot in lots]
    worlds = worlds_told(work, opposed(looks, aim), meeting(work, least))
    return (shown, clashes_told(work, looks, clashes), worlds)


def is_label(work, looks, aim, thing):
    """Whether the thing, of any kind, is a label of the aim."""
    check_asked(work, looks, aim)
    if not isinstance(thing, tuple) or len(thing) != 3:
        return False
    lots, clashes, worlds = thing
    if not are_shown(work, looks, aim, lots) or not are_clashes(work, looks, clashes):
        return False
    both = lots_in(lots) + lots_in(clashes)
    return len(least_of(both)) == len(both) and are_worlds(work, opposed(looks, aim), both, worlds)


def check_asked(work, looks, aim):
    """Refuse what is no work, what are no looks, what is no aim."""
    check_work(work)
    check_looks(work, looks)
    check_aim(work, aim)


def are_shown(work, looks, aim, thing):
    """Whether the thing, of any kind, is a list of lots, sorted, each with its tree by the aim and its world."""
    if not are_led(work, thing, 3) or not are_least(lots_in(thing)):
        return False
    by_trees = all([is_tree(work, lot, looks, tree, goal=aim) for lot, tree, world in thing])
    return by_trees and all([fits(work, lot, looks, world) for lot, tree, world in thing])
