"""Trees of cases: they show that no world fits a lot and looks, or that in each that does a wire has a value."""

from leastblame.errors import NoAim
from leastblame.ties import all_hold, whole_within
from leastblame.works import check_work
from leastblame.worlds import check_looks, check_lot, first_world, meets


def is_tree(work, lot, looks, thing, *, goal=None):
    """Whether the thing, of any kind, is a tree of cases by the lot and looks, and by the goal where there is one."""
    check_work(work)
    check_lot(work, lot)
    check_looks(work, looks)
    if goal is not None:
        check_aim(work, goal)
    return tree_stands((work, lot, looks, goal), [None for wire in work.wires()], thing)


def refuted(work, lot, looks):
    """A tree by which no world has the lot sound and meets the looks, or the first world that does."""
    world = first_world(work, lot, looks)
    if world is not None:
        return ("world", world)
    return ("tree", tree_told(work, look_bonds(work, looks) + tie_bonds(work, lot)))


def follows(work, lot, looks, aim):
    """A tree by which the aim follows, or the first world in which its wire has another value."""
    check_work(work)
    check_lot(work, lot)
    check_looks(work, looks)
    check_aim(work, aim)
    world = first_world(work, lot, opposed(looks, aim))
    if world is not None:
        return ("world", world)
    aimed = [(("aim",), placed_look(work, other_value(aim)))]
    return ("tree", tree_told(work, look_bonds(work, looks) + aimed + tie_bonds(work, lot)))


def check_aim(work, aim):
    """Refuse with NoAim what is no aim of the work."""
    if not isinstance(aim, tuple) or len(aim) != 2 or not isinstance(aim[0], str):
        raise NoAim()
    manys = dict(work.wires())
    if aim[0] not in manys or not whole_within(aim[1], 0, manys[aim[0]] - 1):
        raise NoAim()


def other_value(aim):
    """The look that just the worlds meet in which the aim's wire has another value."""
    return ("isnt", aim[0], aim[1])


def opposed(looks, aim):
    """The looks, and that the aim's wire has another value: by a lot the aim follows just where these can't be met."""
    return [*looks, other_value(aim)]


def tree_stands(case, told, thing):
    """Whether the thing is a tree of the case (work, lot, looks, goal); told has None for each wire not yet told."""
    if not isinstance(thing, tuple) or not thing or not isinstance(thing[0], str):
        return False
    work, lot, looks, goal = case
    word = thing[0]
    if word == "tie":
        return len(thing) == 3 and tie_broken(work, lot, told, thing[1], thing[2])
    if word == "look":
        return len(thing) == 2 and look_broken(work, looks, told, thing[1])
    if word == "aim":
        return len(thing) == 1 and goal is not None and look_broken(work, [other_value(goal)], told, 0)
    return word == "cases" and len(thing) == 3 and trees_stand(case, told, thing[1], thing[2])


def tie_broken(work, lot, told, part, number):
    """Whether the part is one of the lot, and by no values of the wires not yet told its tie of that number holds."""
    if not whole_within(part, 0, len(work) - 1) or part not in lot:
        return False
    ties = work.placed_parts[part]
    return whole_within(number, 0, len(ties) - 1) and not can_hold(work, told, ties[number])


def can_hold(work, told, tie):
    """Whether the placed tie holds by some values of the wires not yet told."""
    worlds = [told]
    # The tie's own wires are enough: it is the same whatever values the others have.
    for number in sorted(set(tie[1])):
        if told[number] is None:
            many = work.wire_rows[number][1]
            worlds = [with_value(world, number, value) for world in worlds for value in range(many)]
    return any([all_hold([tie], world) for world in worlds])


def look_broken(work, looks, told, number):
    """Whether the wire of the look of that number is told, and doesn't meet it."""
    if not whole_within(number, 0, len(looks) - 1):
        return False
    value = told[work.wire_number(looks[number][1])]
    return value is not None and not meets(value, looks[number])


def trees_stand(case, told, wire, trees):
    """Whether the wire is one not yet told, and the trees a list with a tree for each of its values."""
    work = case[0]
    if not isinstance(wire, str) or wire not in work.wire_places:
        return False
    number = work.wire_number(wire)
    if told[number] is not None or not isinstance(trees, list) or len(trees) != work.wire_rows[number][1]:
        return False
    return all([tree_stands(case, with_value(told, number, value), tree) for value, tree in enumerate(trees)])


def with_value(told, number, value):
    """What is told, and that value of the wire with that number: a new list."""
    return [*told[:number], value, *told[number + 1:]]


def placed_look(work, look):
    """The look as a placed tie that just the worlds keep that meet it."""
    number = work.wire_number(look[1])
    many = work.wire_rows[number][1]
    return ("rows", [number], {(value,): True for value in range(many) if meets(value, look)})


def look_bonds(work, looks):
    """The looks as bonds (leaf, placed tie): where the tie doesn't hold the leaf ends a tree."""
    return [(("look", number), placed_look(work, look)) for number, look in enumerate(looks)]


def tie_bonds(work, lot):
    """The ties of the lot's parts as bonds."""
    return [(("tie", part, number), tie) for part in lot for number, tie in enumerate(work.placed_parts[part])]


def tree_told(work, bonds):
    """A tree of cases by bonds that no world keeps all of."""
    # Wires are told in the order in which the bonds name them, the looks' ones first: so trees end early.
    numbers = list({number: True for leaf, tie in bonds for number in tie[1]})
    turns = {number: turn for turn, number in enumerate(numbers)}
    ending = [[] for number in numbers]
    for leaf, tie in bonds:
        ending[max([turns[number] for number in tie[1]])].append((leaf, tie))
    return tree_grown(work, list(zip(numbers, ending)), [None for wire in work.wires()])


def tree_grown(work, turns, told):
    """The tree within which so much is told; turns are the wires left, each with the bonds that it is the last of."""
    number, ending = turns[0]
    name, many = work.wire_rows[number]
    trees = []
    for value in range(many):
        world = with_value(told, number, value)
        leaf = first_leaf(ending, world)
        trees.append(tree_grown(work, turns[1:], world) if leaf is None else leaf)
    return ("cases", name, trees)


def first_leaf(bonds, world):
    """The leaf of the first bond that doesn't hold, or None."""
    for leaf, tie in bonds:
        if not all_hold([tie], world):
            return leaf
    return None
