"""Chances: how likely all modes are behind looks, by told ways of being broken."""

from leastblame.errors import NoWays, NoWorlds, TooMany
from leastblame.fractions import fraction, is_fraction, multiple, on_one_bottom
from leastblame.ties import all_hold, is_tie, placed_tie
from leastblame.works import check_work
from leastblame.worlds import all_worlds, check_looks

MOST_MODES = 1024
MOST_WAYS = 3
MOST_WAY_TIES = 6


def chances(work, ways, looks):
    """All modes that may be so behind the looks, sorted, each with its share."""
    rows = modes_left(work, ways, looks)
    whole = sum([weight for modes, weight in rows])
    return [(modes, fraction(weight, whole)) for modes, weight in rows]


def broken_chances(work, ways, looks):
    """For each part the chance that it is broken, behind the looks."""
    rows = modes_left(work, ways, looks)
    whole = sum([weight for modes, weight in rows])
    return [fraction(sum([weight for modes, weight in rows if modes[part] > 0]), whole) for part in range(len(work))]


def check_ways(work, ways):
    """Refuse with NoWays what are no ways of the work's parts."""
    if not isinstance(ways, list) or len(ways) != len(work):
        raise NoWays(None)
    for number, some in enumerate(ways):
        if not are_ways(some, work.wire_places):
            raise NoWays(number)


def are_ways(thing, names):
    """Whether the thing, of any kind, are the ways of one part."""
    if not isinstance(thing, list) or len(thing) > MOST_WAYS or not all([is_way(way, names) for way in thing]):
        return False
    tops, bottom = on_one_bottom([share for share, ties in thing])
    return sum(tops) < bottom


def is_way(thing, names):
    """Whether the thing, of any kind, is one way; the wires' names are the keys of a dict."""
    if not isinstance(thing, tuple) or len(thing) != 2:
        return False
    share, ties = thing
    if not is_fraction(share) or share[0] == 0 or not isinstance(ties, list) or len(ties) > MOST_WAY_TIES:
        return False
    return all([is_tie(tie, names) for tie in ties])


def check_many(ways):
    """Refuse with TooMany ways by which there are too many modes."""
    many = 1
    for some in ways:
        many *= len(some) + 1
    if many > MOST_MODES:
        raise TooMany(MOST_MODES)


def modes_left(work, ways, looks):
    """All modes with a world that meets the looks, sorted, each with a weight: their shares are as the weights."""
    check_work(work)
    check_ways(work, ways)
    check_looks(work, looks)
    check_many(ways)
    met = {tuple(world): True for world in all_worlds(work, (), looks)}
    counted = [(modes, weight, len([world for world in worlds if world in met]))
               for modes, weight, worlds in modes_with_worlds(work, ways)]
    rows = [(modes, weight * many) for modes, weight, many in counted if many > 0]
    if not rows:
        raise NoWorlds()
    return rows


def modes_with_worlds(work, ways):
    """All modes with a world, sorted, as (modes, weight, worlds).

    The chance of the modes together with any one of their worlds is as the weight: it is a whole number, so nothing
    but sums is reckoned until a share is told.
    """
    worlds = [tuple(world) for world in all_worlds(work, (), [])]
    rows = [((), 1, worlds)]
    for part, some in enumerate(ways):
        tables = [(top, {world: True for world in worlds if all_hold(ties, world)})
                  for top, ties in choices(work, part, some)]
        rows = longer_modes(rows, tables)
    common = multiple(sorted({len(held) for modes, top, held in rows}))
    return [(modes, top * (common // len(held)), held) for modes, top, held in rows]


def longer_modes(rows, tables):
    """The modes with one part more, which has a choice for each table (top, worlds); those with no world are gone."""
    longer = []
    for modes, top, worlds in rows:
        for number, (share, held) in enumerate(tables):
            left = [world for world in worlds if world in held]
            if left:
                longer.append(((*modes, number), top * share, left))
    return longer


def choices(work, part, some):
    """What the part may be, sound first, then by its ways, as (top, placed ties), the tops over one bottom."""
    tops, bottom = on_one_bottom([share for share, ties in some])
    manys = [many for name, many in work.wires()]
    placed = [[placed_tie(tie, work.wire_places, manys) for tie in ties] for share, ties in some]
    return [(bottom - sum(tops), work.placed_parts[part])] + list(zip(tops, placed))


def account_weights(work, ways, rows):
    """For each account, by its world, a weight: their shares are as the weights.

    Told by worlds alone: two accounts have unlike worlds, as in each just the parts of its lot aren't sound.
    """
    weights = {tuple(world): 0 for lot, world in rows}
    lots = {tuple(world): lot for lot, world in rows}
    for modes, weight, worlds in modes_with_worlds(work, ways):
        lot = tuple([part for part, mode in enumerate(modes) if mode > 0])
        for world in worlds:
            if lots.get(world) == lot:
                weights[world] += weight
    return weights
