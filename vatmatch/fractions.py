"""Whole numbers and fractions: tuples (TOP, BOTTOM) in lowest terms, BOTTOM from 1 on."""

from vatmatch.errors import NoNumber

NOUGHT = (0, 1)


def is_whole(thing):
    """Whether this is a whole number: an int that is no truth."""
    return isinstance(thing, int) and not isinstance(thing, bool)


def common_divisor(a, b):
    """The greatest common divisor of two whole numbers from 0 on."""
    while b > 0:
        a, b = b, a % b
    return a


def is_fraction(thing):
    """Whether this, of any kind, is a fraction."""
    if not isinstance(thing, tuple) or len(thing) != 2:
        return False
    top, bottom = thing
    if not is_whole(top) or not is_whole(bottom) or bottom < 1:
        return False
    return common_divisor(abs(top), bottom) == 1


def fraction(top, bottom):
    """The fraction of two whole numbers (NoNumber of a bottom 0)."""
    if bottom == 0:
        raise NoNumber("the bottom of a fraction is 0")
    divisor = common_divisor(abs(top), abs(bottom))
    # A divisor with the bottom's sign leaves the bottom above 0.
    if bottom < 0:
        divisor = -divisor
    return (top // divisor, bottom // divisor)


def plus(a, b):
    """Two fractions together."""
    return fraction(a[0] * b[1] + b[0] * a[1], a[1] * b[1])


def minus(a, b):
    """The fraction a less b."""
    return fraction(a[0] * b[1] - b[0] * a[1], a[1] * b[1])


def times(a, b):
    """Two fractions multiplied."""
    return fraction(a[0] * b[0], a[1] * b[1])


def over(a, b):
    """The fraction a divided by b (NoNumber where b is 0)."""
    return fraction(a[0] * b[1], a[1] * b[0])


def below(a, b):
    """Whether the fraction a is less than b."""
    # Bottoms are above 0, so multiplying by them keeps the order.
    return a[0] * b[1] < b[0] * a[1]


def greater(a, b):
    """The greater one of two fractions."""
    return b if below(a, b) else a


def total(row):
    """All fractions of a row together."""
    together = NOUGHT
    for one in row:
        together = plus(together, one)
    return together


def over_one_bottom(row):
    """The tops of all fractions of a row, brought over one bottom, and this bottom."""
    bottom = 1
    for one in row:
        bottom *= one[1]
    return ([one[0] * (bottom // one[1]) for one in row], bottom)
