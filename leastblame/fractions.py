"""Fractions: tuples (top, bottom) of whole numbers that no number above 1 divides both."""

from leastblame.ties import whole_from


def divisor(one, other):
    """The greatest number that divides both; they are not both 0."""
    while other > 0:
        one, other = other, one % other
    return one


def multiple(numbers):
    """The least number that all the numbers divide, which are from 1 on."""
    least = 1
    for number in numbers:
        least = least // divisor(least, number) * number
    return least


def is_fraction(thing):
    """Whether the thing, of any kind, is a fraction."""
    if not isinstance(thing, tuple) or len(thing) != 2:
        return False
    return whole_from(thing[0], 0) and whole_from(thing[1], 1) and divisor(thing[0], thing[1]) == 1


def fraction(top, bottom):
    """The fraction that is top parted by bottom, which is from 1 on."""
    common = divisor(top, bottom)
    return (top // common, bottom // common)


def on_one_bottom(fractions):
    """The tops that the fractions have over one bottom, and that bottom."""
    bottom = multiple([below for top, below in fractions])
    return ([top * (bottom // below) for top, below in fractions], bottom)
