"""Stages: parts of a work closed into one part each, and opened again."""

from leastblame.clashes import share_part
from leastblame.errors import NoStages, NoWires
from leastblame.ties import are_wires, is_name
from leastblame.works import Work, check_work
from leastblame.worlds import all_worlds, check_lot, check_numbers, is_lot


def closed(work, stages, *, seen=()):
    """The work with each stage closed into one part; the wires that are seen stay."""
    check_work(work)
    check_stages(work, stages)
    check_seen(work, seen)
    named = [wires_of(work, lot) for name, lot in stages]
    inner = [inner_wires(work, lot, seen) for name, lot in stages]
    for number in range(len(stages)):
        if named[number] == inner[number]:
            raise NoStages(number)
    gone = [wire for some in inner for wire in some]
    wires = [wire for number, wire in enumerate(work.wires()) if number not in gone]
    return Work(wires, [closed_part(work, stages, inner, lot, stage) for lot, stage in closed_rows(work, stages)])


def lot_closed(work, stages, lot):
    """The lot of those parts of the closed work that are, or whose stages hold, some of the lot's parts."""
    check_work(work)
    check_stages(work, stages)
    check_lot(work, lot)
    rows = closed_rows(work, stages)
    return tuple([number for number, (some, stage) in enumerate(rows) if share_part(some, lot)])


def lot_opened(work, stages, lot):
    """The lot of the parts, and of all parts of the stages, that the closed work's lot has."""
    check_work(work)
    check_stages(work, stages)
    rows = closed_rows(work, stages)
    check_numbers(lot, len(rows))
    return tuple(sorted([part for number in lot for part in rows[number][0]]))


def check_stages(work, stages):
    """Refuse with NoStages what are no stages of the work, whatever wires are inner to them."""
    if not isinstance(stages, list):
        raise NoStages(None)
    names = []
    staged = []
    for number, stage in enumerate(stages):
        if not is_stage(work, stage) or stage[0] in names or share_part(stage[1], staged):
            raise NoStages(number)
        names.append(stage[0])
        staged.extend(stage[1])
    left = [name for number, (name, ties) in enumerate(work.parts()) if number not in staged]
    for number, stage in enumerate(stages):
        if stage[0] in left:
            raise NoStages(number)


def is_stage(work, thing):
    """Whether the thing, of any kind, is a stage by itself."""
    if not isinstance(thing, tuple) or len(thing) != 2 or not is_name(thing[0]):
        return False
    return is_lot(work, thing[1]) and len(thing[1]) > 0


def check_seen(work, seen):
    """Refuse with NoWires what are no wires that must stay."""
    if not isinstance(seen, (list, tuple)) or not are_wires(seen, work.wire_places):
        raise NoWires()
    if len(set(seen)) != len(seen):
        raise NoWires()


def closed_rows(work, stages):
    """The parts of the closed work, in order, as (the work's parts in it, number of its stage or None)."""
    rows = [(lot, number) for number, (name, lot) in enumerate(stages)]
    staged = [part for name, lot in stages for part in lot]
    rows.extend([((part,), None) for part in range(len(work)) if part not in staged])
    return sorted(rows, key=lambda row: row[0])


def wires_of(work, lot):
    """The numbers of the wires that ties of the lot's parts name, rising."""
    return sorted({number for part in lot for tie in work.placed_parts[part] for number in tie[1]})


def inner_wires(work, lot, seen):
    """The numbers of the wires that are inner to the stage with this lot, rising."""
    others = wires_of(work, [part for part in range(len(work)) if part not in lot])
    stay = [work.wire_number(name) for name in seen]
    return [number for number in wires_of(work, lot) if number not in others and number not in stay]


def closed_part(work, stages, inner, lot, stage):
    """The closed work's part that has the lot's parts in it: a part of the work, or a stage."""
    if stage is None:
        return work.parts()[lot[0]]
    numbers = [number for number in wires_of(work, lot) if number not in inner[stage]]
    names = tuple([work.wires()[number][0] for number in numbers])
    # The other wires bind nothing here: so the worlds of the whole work tell all values that the stage lets be.
    rows = sorted({tuple([world[number] for number in numbers]) for world in all_worlds(work, lot, [])})
    return (stages[stage][0], [("rows", names, tuple(rows))])
