"""Works written as texts, and read again."""

from leastblame.errors import NoText, NoWork
from leastblame.ties import is_name, is_tie
from leastblame.works import MOST_PARTS, MOST_TIES, Work, check_wires, check_work

# All numbers of a text have one figure, so no other word is one.
NUMBERS = {"0": 0, "1": 1, "2": 2, "3": 3, "4": 4}


def shown(work):
    """The text of the work."""
    check_work(work)
    rows = [f"wire {name} {many}" for name, many in work.wires()]
    for name, ties in work.parts():
        rows.append(f"part {name}")
        rows.extend([shown_tie(tie) for tie in ties])
    return "\n".join(rows)


def shown_tie(tie):
    """The row of the tie."""
    if tie[0] == "rows":
        rows = [shown_values(row) for row in tie[2]]
        return " ".join(["rows", ",".join(tie[1]), *rows])
    return " ".join([str(word) for word in tie])


def shown_values(values):
    """The word of one row of a tie."""
    return ",".join([str(value) for value in values])


def read(text):
    """The Work whose text this is; NoText of anything else."""
    if not isinstance(text, str):
        raise NoText(0)
    rows = text.split("\n")
    wires = []
    parts = []
    for number, row in enumerate(rows):
        if not row_taken(wires, parts, row.split(" ")):
            raise NoText(number)
    if lacks_tie(parts):
        raise NoText(len(rows))
    return Work(wires, parts)


def row_taken(wires, parts, words):
    """Whether the row's words can go on behind the wires and parts; where they can they are put there.

    Whatever is taken can be gone on with to a work's text, so the first row that isn't taken is the wrong one.
    """
    if words[0] == "wire":
        return wire_taken(wires, parts, words)
    if words[0] == "part":
        return part_taken(wires, parts, words)
    return tie_taken(wires, parts, words)


def wire_taken(wires, parts, words):
    """Put the wire behind the others, if it goes there."""
    if parts or len(words) != 3:
        return False
    wire = (words[1], NUMBERS.get(words[2]))
    try:
        check_wires([*wires, wire])
    except NoWork:
        return False
    wires.append(wire)
    return True


def part_taken(wires, parts, words):
    """Put the part, as yet without ties, behind the others, if it goes there."""
    if not wires or lacks_tie(parts) or len(parts) == MOST_PARTS:
        return False
    if len(words) != 2 or not is_name(words[1]) or words[1] in [name for name, ties in parts]:
        return False
    parts.append((words[1], []))
    return True


def tie_taken(wires, parts, words):
    """Put the tie into the last part, if it goes there."""
    if not parts or len(parts[-1][1]) == MOST_TIES:
        return False
    tie = tie_of(words)
    if not is_tie(tie, dict(wires)):
        return False
    parts[-1][1].append(tie)
    return True


def tie_of(words):
    """The tuple that the words of a row tell; a tie only where they are those of one."""
    if words[0] == "fixed" and len(words) == 3:
        return ("fixed", words[1], NUMBERS.get(words[2]))
    if words[0] == "rows" and len(words) > 1:
        rows = [tuple([NUMBERS.get(value) for value in word.split(",")]) for word in words[2:]]
        return ("rows", tuple(words[1].split(",")), tuple(rows))
    return tuple(words)


def lacks_tie(parts):
    """Whether the last part has no tie yet."""
    return len(parts) > 0 and not parts[-1][1]
