"""Whole numbers, names and ties: what is one, and when a tie holds."""

LETTERS = "abcdefghijklmnopqrstuvwxyz"
LONGEST_NAME = 6
GREATEST_VALUE = 3

# Of each word that only wires follow: how many.
WIRES_BEHIND = {"same": 2, "turned": 2, "least": 3, "most": 3, "sum": 3, "pick": 4}


def whole_from(thing, low):
    """Whether the thing, of any kind, is a whole number from low on."""
    return isinstance(thing, int) and not isinstance(thing, bool) and low <= thing


def whole_within(thing, low, high):
    """Whether the thing, of any kind, is a whole number from low to high."""
    return whole_from(thing, low) and thing <= high


def is_name(thing):
    """Whether the thing, of any kind, is a name."""
    if not isinstance(thing, str) or not 1 <= len(thing) <= LONGEST_NAME:
        return False
    return all([letter in LETTERS for letter in thing])


def is_tie(thing, names):
    """Whether the thing, of any kind, is a tie; the wires' names are the keys of a dict."""
    if not isinstance(thing, tuple) or not thing or not isinstance(thing[0], str):
        return False
    word = thing[0]
    if word == "fixed":
        return len(thing) == 3 and are_wires(thing[1:2], names) and whole_within(thing[2], 0, GREATEST_VALUE)
    if word == "rows":
        return len(thing) == 3 and are_columns(thing[1], names) and are_rows(thing[2], len(thing[1]))
    return WIRES_BEHIND.get(word) == len(thing) - 1 and are_wires(thing[1:], names)


def are_wires(things, names):
    """Whether all the things are names of wires."""
    # What is no text may not even be asked for among a dict's keys.
    return all([isinstance(thing, str) and thing in names for thing in things])


def are_columns(thing, names):
    """Whether the thing is a tuple of one or more unlike names of wires."""
    if not isinstance(thing, tuple) or not thing or not are_wires(thing, names):
        return False
    return len(set(thing)) == len(thing)


def are_rows(thing, width):
    """Whether the thing is a tuple of rising rows, each with so many values."""
    if not isinstance(thing, tuple) or not all([is_row(row, width) for row in thing]):
        return False
    return all([thing[number - 1] < thing[number] for number in range(1, len(thing))])


def is_row(thing, width):
    """Whether the thing is a tuple of so many values."""
    if not isinstance(thing, tuple) or len(thing) != width:
        return False
    return all([whole_within(value, 0, GREATEST_VALUE) for value in thing])


def plain_tie(tie):
    """The tie, of plain tuples throughout: one handed in may be of a kind under tuple, and shown otherwise."""
    if tie[0] == "rows":
        return ("rows", tuple(tie[1]), tuple([tuple(row) for row in tie[2]]))
    return tuple(tie)


def renamed_tie(tie, names):
    """The tie with each of its wires called as the dict tells."""
    if tie[0] == "rows":
        return ("rows", tuple([names[name] for name in tie[1]]), tie[2])
    if tie[0] == "fixed":
        return ("fixed", names[tie[1]], tie[2])
    return tuple([tie[0]] + [names[name] for name in tie[1:]])


def placed_tie(tie, places, manys):
    """The tie as (word, numbers of its wires, what else its word needs).

    It is asked of many worlds: so names are looked up, and rows made keys, only once.
    """
    word = tie[0]
    if word == "fixed":
        return (word, [places[tie[1]]], tie[2])
    if word == "rows":
        return (word, [places[name] for name in tie[1]], {row: True for row in tie[2]})
    at = [places[name] for name in tie[1:]]
    return (word, at, manys[at[1]] if word == "turned" else manys[at[0]])


def fixed_holds(values, number):
    return values[0] == number


def same_holds(values, many):
    return values[0] == values[1]


def turned_holds(values, many):
    return values[0] == many - 1 - values[1]


def least_holds(values, many):
    return values[0] == min(values[1], values[2])


def most_holds(values, many):
    return values[0] == max(values[1], values[2])


def sum_holds(values, many):
    return values[0] == (values[1] + values[2]) % many


def pick_holds(values, many):
    return values[0] == (values[2] if values[1] == 0 else values[3])


def rows_hold(values, rows):
    return tuple(values) in rows


TESTS = {
    "fixed": fixed_holds,
    "same": same_holds,
    "turned": turned_holds,
    "least": least_holds,
    "most": most_holds,
    "sum": sum_holds,
    "pick": pick_holds,
    "rows": rows_hold,
}


def all_hold(placed, world):
    """Whether all the placed ties hold in the world, which has a value for each wire that they name."""
    for word, at, needed in placed:
        test = TESTS[word]
        if not test([world[number] for number in at], needed):
            return False
    return True
