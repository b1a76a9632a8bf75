"""Names: a work whose wires and parts are called otherwise, or whose parts stand in another order."""

from leastblame.errors import NoNames
from leastblame.ties import is_name, renamed_tie, whole_within
from leastblame.works import Work, check_work
from leastblame.worlds import check_looks, check_lot


def called(work, *, wires=None, parts=None, order=None):
    """The work with its wires called so, its parts called so, and each part p at order[p]; None leaves them."""
    check_work(work)
    check_names(wires, len(work.wires()), "wires")
    check_names(parts, len(work), "parts")
    check_order(work, order)
    names = new_names(work, wires)
    rows = [(name, [renamed_tie(tie, names) for tie in ties]) for name, ties in work.parts()]
    if parts is not None:
        rows = [(name, ties) for name, (old, ties) in zip(parts, rows)]
    placed = list(rows)
    for part, place in enumerate(places(work, order)):
        placed[place] = rows[part]
    return Work([(names[name], many) for name, many in work.wires()], placed)


def led_lot(work, lot, *, order=None):
    """The lot, led along by the order."""
    check_work(work)
    check_lot(work, lot)
    check_order(work, order)
    led = places(work, order)
    return tuple(sorted([led[part] for part in lot]))


def led_looks(work, looks, *, wires=None):
    """The looks, at the wires as they are called now."""
    check_work(work)
    check_looks(work, looks)
    check_names(wires, len(work.wires()), "wires")
    names = new_names(work, wires)
    return [(word, names[wire], value) for word, wire, value in looks]


def check_names(thing, many, which):
    """Refuse with NoNames what is neither None nor a list of so many unlike names."""
    if thing is None:
        return
    if not isinstance(thing, list) or len(thing) != many or not all([is_name(name) for name in thing]):
        raise NoNames(which)
    if len(set(thing)) != many:
        raise NoNames(which)


def check_order(work, thing):
    """Refuse with NoNames what is neither None nor a list of all parts' numbers, each once."""
    if thing is None:
        return
    many = len(work)
    if not isinstance(thing, list) or not all([whole_within(number, 0, many - 1) for number in thing]):
        raise NoNames("order")
    if sorted(thing) != list(range(many)):
        raise NoNames("order")


def new_names(work, wires):
    """What each wire is called now, by its name."""
    old = [name for name, many in work.wires()]
    if wires is None:
        return {name: name for name in old}
    return dict(zip(old, wires))


def places(work, order):
    """For each part the number that it has now."""
    return list(range(len(work))) if order is None else order
