"""The refusals, each with its values as fields.

None hands words to its base: so the values stay what Python shows of it.
"""


class NoWork(ValueError):
    """What was handed in makes no work."""

    def __init__(self, part, number, tie):
        self.part = part
        self.number = number
        self.tie = tie


class NoText(ValueError):
    """This is no work's text."""

    def __init__(self, row):
        self.row = row


class NoWorld(ValueError):
    """This is no world of the work."""


class NoLot(ValueError):
    """This is no lot of the work, or no list of lots."""

    def __init__(self, number):
        self.number = number


class NoLook(ValueError):
    """These are no looks at the work."""

    def __init__(self, number):
        self.number = number


class NoAim(ValueError):
    """This is no aim of the work."""


class NoWays(ValueError):
    """These are no ways of being broken."""

    def __init__(self, part):
        self.part = part


class NoWires(ValueError):
    """This is no list of names of wires."""


class NoStages(ValueError):
    """These are no stages of the work."""

    def __init__(self, number):
        self.number = number


class NoBeats(ValueError):
    """The work can't go over such beats."""

    def __init__(self, which):
        self.which = which


class NoNames(ValueError):
    """The work can't be called so."""

    def __init__(self, which):
        self.which = which


class NoRow(ValueError):
    """This is no question."""


class NoWire(KeyError):
    """No wire is called so."""

    def __init__(self, name):
        self.name = name


class NoPart(KeyError):
    """No part is called so."""

    def __init__(self, name):
        self.name = name


class NoName(KeyError):
    """Nothing is called so."""

    def __init__(self, name):
        self.name = name


class NoNumber(IndexError):
    """Nothing has this number."""

    def __init__(self, number):
        self.number = number


class NoWorlds(RuntimeError):
    """No world is left."""


class Bare(RuntimeError):
    """No deed stands that could be taken back."""


class TooMany(OverflowError):
    """There are more than are looked at."""

    def __init__(self, many):
        self.many = many
