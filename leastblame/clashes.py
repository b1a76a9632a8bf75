"""Lots that clash with looks, and the least lots that meet all of some lots."""

from leastblame.errors import NoLot
from leastblame.works import check_work
from leastblame.worlds import all_worlds, is_lot, sound_in, within


def clashing(work, looks):
    """The least lots that no world has sound that meets the looks, sorted."""
    sound = {sound_in(work, world): True for world in all_worlds(work, (), looks)}
    return least_of([lot for lot in all_lots(work) if not any([within(lot, other) for other in sound])])


def meeting(work, lots):
    """The least lots that have a part in common with each of the lots, sorted."""
    check_work(work)
    check_lots(work, lots)
    return least_of([lot for lot in all_lots(work) if all([share_part(lot, other) for other in lots])])


def check_lots(work, lots):
    """Refuse with NoLot what is no list of lots of the work."""
    if not isinstance(lots, list):
        raise NoLot(None)
    for number, lot in enumerate(lots):
        if not is_lot(work, lot):
            raise NoLot(number)


def share_part(lot, other):
    """Whether the two lots have a part in common."""
    return any([part in other for part in lot])


def all_lots(work):
    """All lots of the work."""
    lots = [()]
    for part in range(len(work)):
        lots = lots + [(*lot, part) for lot in lots]
    return lots


def outside(work, lot):
    """The lot of all parts that are not in this one."""
    return tuple([part for part in range(len(work)) if part not in lot])


def least_of(lots):
    """Those of the lots that hold no other one, each once, sorted by how many parts they have, then as tuples."""
    least = []
    for lot in sorted(lots, key=lambda one: (len(one), one)):
        if not any([within(other, lot) for other in least]):
            least.append(lot)
    return least
