"""Lots and papers told a second time, plainly, by going through all lots and all worlds; and papers bent."""

import itertools

from helpers import holds, odd_things, sound_slowly, worlds_slowly

GATES = [("a", 2), ("b", 2), ("x", 2)]
PARTS = [("inv", [("turned", "b", "a")]), ("both", [("least", "x", "a", "b")])]
SEEN = [("is", "x", 1)]

# Written by hand: x is 1, so a and b are, by part 1; part 0 has them unlike.
TREE = ("cases", "x", [
    ("look", 0),
    ("cases", "a", [
        ("tie", 1, 0),
        ("cases", "b", [("tie", 1, 0), ("tie", 0, 0)])])])

CHAIN_WIRES = [("a", 2), ("b", 2), ("c", 2), ("d", 2)]
CHAIN_PARTS = [("p", [("same", "b", "a")]), ("q", [("same", "c", "b")]), ("r", [("same", "d", "c")])]


def lots_slowly(many):
    """All lots of so many parts, sorted by how many parts they have, then as tuples."""
    return [lot for size in range(many + 1) for lot in itertools.combinations(range(many), size)]


def met_slowly(wires, looks, world):
    """Whether the world meets the looks."""
    seen = {name: value for (name, many), value in zip(wires, world)}
    return all(seen[wire] == value if word == "is" else seen[wire] != value for word, wire, value in looks)


def fitting_slowly(wires, parts, looks):
    """All worlds that meet the looks, sorted, each with the set of the parts that are sound in it."""
    return [(world, set(sound_slowly(wires, parts, world)))
            for world in worlds_slowly(wires) if met_slowly(wires, looks, world)]


def least_slowly(lots):
    """Those of the lots that hold no other one."""
    return [lot for lot in lots if not any(set(other) < set(lot) for other in lots)]


def clashing_slowly(wires, parts, looks):
    fitting = fitting_slowly(wires, parts, looks)
    return least_slowly([lot for lot in lots_slowly(len(parts)) if not any(set(lot) <= sound for _, sound in fitting)])


def broken_slowly(wires, parts, looks):
    fitting = fitting_slowly(wires, parts, looks)
    everything = set(range(len(parts)))
    return least_slowly([
        lot for lot in lots_slowly(len(parts)) if any(everything - set(lot) <= sound for _, sound in fitting)])


def meeting_slowly(many, lots):
    return least_slowly([lot for lot in lots_slowly(many) if all(set(lot) & set(other) for other in lots)])


def following_slowly(wires, parts, looks, aim):
    """The least lots by which the aim follows, clashing ones too."""
    at = [name for name, many in wires].index(aim[0])
    fitting = fitting_slowly(wires, parts, looks)
    return least_slowly([
        lot for lot in lots_slowly(len(parts))
        if all(world[at] == aim[1] for world, sound in fitting if set(lot) <= sound)])


def lots_of_slowly(wires, parts, looks, aim):
    fitting = fitting_slowly(wires, parts, looks)
    lots = following_slowly(wires, parts, looks, aim)
    return [lot for lot in lots if any(set(lot) <= sound for _, sound in fitting)]


def is_number(thing, many):
    return thing.__class__ is int and 0 <= thing < many


def tree_slowly(case, thing, goal=None, told=None):
    """Whether the thing is a tree; the case is (wires, parts, lot, looks)."""
    wires, parts, lot, looks = case
    told = told or {}
    if thing.__class__ is not tuple or not thing or thing[0].__class__ is not str:
        return False
    word, rest = thing[0], thing[1:]
    if word == "tie" and len(rest) == 2 and is_number(rest[0], len(parts)) and rest[0] in lot:
        ties = parts[rest[0]][1]
        return is_number(rest[1], len(ties)) and not any(
            holds(ties[rest[1]], seen, dict(wires)) for seen in completed(wires, told))
    if word == "look" and len(rest) == 1 and is_number(rest[0], len(looks)):
        kind, wire, value = looks[rest[0]]
        return wire in told and (told[wire] != value if kind == "is" else told[wire] == value)
    if word == "aim" and not rest:
        return goal is not None and goal[0] in told and told[goal[0]] == goal[1]
    if word == "cases" and len(rest) == 2 and rest[0].__class__ is str and rest[0] in dict(wires):
        wire, trees = rest
        if wire in told or trees.__class__ is not list or len(trees) != dict(wires)[wire]:
            return False
        return all(tree_slowly(case, tree, goal, {**told, wire: value}) for value, tree in enumerate(trees))
    return False


def completed(wires, told):
    """All worlds with what is told, each by names."""
    names = [name for name, many in wires]
    values = [[told[name]] if name in told else range(many) for name, many in wires]
    return [dict(zip(names, world)) for world in itertools.product(*values)]


def rows_with(thing, length, lots):
    """Whether the thing is a list of tuples of that length, just these lots first."""
    if thing.__class__ is not list or any(row.__class__ is not tuple or len(row) != length for row in thing):
        return False
    if any(row[0].__class__ is not tuple or any(part.__class__ is not int for part in row[0]) for row in thing):
        return False
    return [row[0] for row in thing] == lots


def is_world_slowly(thing, wires):
    return thing.__class__ is list and all(value.__class__ is int for value in thing) and thing in worlds_slowly(wires)


def fits_slowly(wires, parts, looks, lot, thing):
    """Whether the thing is a world with the lot sound that meets the looks."""
    return (is_world_slowly(thing, wires) and met_slowly(wires, looks, thing)
            and set(lot) <= set(sound_slowly(wires, parts, thing)))


def blame_judge(wires, parts, looks):
    """Whether a thing is a blame: one with just the least lots, each with a right paper."""
    clashing, broken = clashing_slowly(wires, parts, looks), broken_slowly(wires, parts, looks)
    everything = set(range(len(parts)))

    def judge(thing):
        if thing.__class__ is not tuple or len(thing) != 2:
            return False
        clashes, worlds = thing
        if not rows_with(clashes, 2, clashing) or not rows_with(worlds, 2, broken):
            return False
        return all(tree_slowly((wires, parts, lot, looks), tree) for lot, tree in clashes) and all(
            fits_slowly(wires, parts, looks, everything - set(lot), world) for lot, world in worlds)

    return judge


def label_judge(wires, parts, looks, aim):
    """Whether a thing is a label: one with just the least lots, each with right papers."""
    right = lots_of_slowly(wires, parts, looks, aim)
    clashing = [lot for lot in following_slowly(wires, parts, looks, aim) if lot not in right]
    other = [*looks, ("isnt", *aim)]
    broken = broken_slowly(wires, parts, other)
    everything = set(range(len(parts)))

    def judge(thing):
        if thing.__class__ is not tuple or len(thing) != 3:
            return False
        lots, clashes, worlds = thing
        if not rows_with(lots, 3, right) or not rows_with(clashes, 2, clashing) or not rows_with(worlds, 2, broken):
            return False
        return all(
            tree_slowly((wires, parts, lot, looks), tree, aim) and fits_slowly(wires, parts, looks, lot, world)
            for lot, tree, world in lots
        ) and all(tree_slowly((wires, parts, lot, looks), tree) for lot, tree in clashes) and all(
            fits_slowly(wires, parts, other, everything - set(lot), world) for lot, world in worlds)

    return judge


def other_kinds(thing):
    """Things near to the thing, of its kind or of another."""
    if thing.__class__ is int:
        return [thing + 1, thing - 1, -thing - 1, float(thing), bool(thing), str(thing), [thing], (thing,), 7, 8]
    if thing.__class__ is str:
        return [thing + "s", thing[:-1], thing.upper(), thing + " ", thing.encode(), [thing], (thing,), "a", "b", "x",
                "c", "p", "tie", "look", "aim", "cases"]
    if thing.__class__ is list:
        return [tuple(thing), thing[::-1], {0: thing}, [thing], (thing,), iter(thing), *shortened(thing), thing + [()]]
    return [list(thing), thing[::-1], {0: thing}, [thing], (thing,), *shortened(thing), thing + ((),), thing + (0,)]


def shortened(thing):
    """The list or tuple with one thing too few, too many, or out of its turn."""
    found = [thing[:at] + thing[at + 1:] for at in range(len(thing))]
    found += [thing[:at] + thing[at:at + 1] + thing[at:] for at in range(len(thing))]
    found += [thing[:at] + thing[at + 1:at + 2] + thing[at:at + 1] + thing[at + 2:] for at in range(len(thing) - 1)]
    return found


def bent(thing, odd=True):
    """The paper bent at one place, in many ways; now and then it is still a right one."""
    yield from (other for other in other_kinds(thing) if other.__class__ is not thing.__class__ or other != thing)
    if odd:
        yield from odd_things()
    if isinstance(thing, (list, tuple)):
        for at, inner in enumerate(thing):
            for other in bent(inner, odd):
                yield thing[:at] + thing.__class__([other]) + thing[at + 1:]
