"""Works: wires with a few values each, and parts that bind them while they are sound."""

from leastblame.errors import NoPart, NoWire, NoWork
from leastblame.ties import is_name, is_tie, placed_tie, plain_tie, whole_within

MOST_WIRES = 8
MOST_WORLDS = 2048
MOST_PARTS = 7
MOST_TIES = 24


def is_pair(thing):
    """Whether the thing is a tuple of two, a name first."""
    return isinstance(thing, tuple) and len(thing) == 2 and is_name(thing[0])


def check_wires(wires):
    """Refuse with NoWork what are no wires of a work."""
    if not isinstance(wires, list) or not 1 <= len(wires) <= MOST_WIRES:
        raise NoWork("wires", None, None)
    names = set()
    worlds = 1
    for number, wire in enumerate(wires):
        if not is_pair(wire) or wire[0] in names or not whole_within(wire[1], 2, 4):
            raise NoWork("wires", number, None)
        names.add(wire[0])
        worlds *= wire[1]
    if worlds > MOST_WORLDS:
        raise NoWork("wires", None, None)


def check_parts(parts):
    """Refuse with NoWork what are no parts, whatever their ties are."""
    if not isinstance(parts, (list, tuple)) or len(parts) > MOST_PARTS:
        raise NoWork("parts", None, None)
    names = set()
    for number, part in enumerate(parts):
        if not is_pair(part) or part[0] in names or not isinstance(part[1], list):
            raise NoWork("parts", number, None)
        if not 1 <= len(part[1]) <= MOST_TIES:
            raise NoWork("parts", number, None)
        names.add(part[0])


def check_ties(parts, names):
    """Refuse with NoWork the first tie of the parts that is none."""
    for number, part in enumerate(parts):
        for at, tie in enumerate(part[1]):
            if not is_tie(tie, names):
                raise NoWork("ties", number, at)


def places_of(pairs):
    """The number of each pair by the name that stands first in it."""
    return {pair[0]: number for number, pair in enumerate(pairs)}


class Work:
    """Wires and parts, looked through once; it never changes."""

    def __init__(self, wires, parts=()):
        check_wires(wires)
        check_parts(parts)
        places = places_of(wires)
        check_ties(parts, places)
        self.wire_rows = [(name, many) for name, many in wires]
        self.part_rows = [(name, [plain_tie(tie) for tie in ties]) for name, ties in parts]
        self.wire_places = places
        self.part_places = places_of(parts)
        manys = [many for name, many in wires]
        # Ties are asked of many worlds: so they are placed once, here.
        self.placed_parts = [[placed_tie(tie, places, manys) for tie in ties] for name, ties in self.part_rows]

    def wires(self):
        return list(self.wire_rows)

    def parts(self):
        return [(name, list(ties)) for name, ties in self.part_rows]

    def wire_number(self, name):
        if not isinstance(name, str) or name not in self.wire_places:
            raise NoWire(name)
        return self.wire_places[name]

    def part_number(self, name):
        if not isinstance(name, str) or name not in self.part_places:
            raise NoPart(name)
        return self.part_places[name]

    def __len__(self):
        return len(self.part_rows)

    def __eq__(self, other):
        return isinstance(other, Work) and self.wire_rows == other.wire_rows and self.part_rows == other.part_rows

    def __repr__(self):
        return f"Work({self.wire_rows!r}, {self.part_rows!r})"


def check_work(work):
    """Refuse with NoWork what is no Work."""
    if not isinstance(work, Work):
        raise NoWork("work", None, None)
