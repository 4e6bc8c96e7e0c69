"""Names, measures, parts, shades and stuffs, and how far stuffs are from a shade."""

from vatmatch.errors import NoMany, NoShade, NoStuffs
from vatmatch.fractions import NOUGHT, below, greater, is_fraction, is_whole, minus, times, total

MOST_MEASURES = 9999


def is_name(thing):
    """Whether this, of any kind, is a name: one to six small letters."""
    if not isinstance(thing, str) or not 1 <= len(thing) <= 6:
        return False
    return all("a" <= sign <= "z" for sign in thing)


def is_measures(thing):
    """Whether this, of any kind, is a number M of measures."""
    return is_whole(thing) and 1 <= thing <= MOST_MEASURES


def is_many(thing):
    """Whether this, of any kind, is a number of base stuffs."""
    return is_whole(thing) and 2 <= thing <= 4


def check_many(many):
    """Refuse with NoMany what is no number of base stuffs."""
    if not is_many(many):
        raise NoMany("MANY is a whole number from 2 to 4")


def is_row_of(many, thing):
    """Whether this, of any kind, is a tuple of so many things."""
    return isinstance(thing, tuple) and len(thing) == many


def are_rising(rows):
    """Whether each row begins with more than the one ahead of it does."""
    return all(ahead[0] < behind[0] for ahead, behind in zip(rows, rows[1:]))


def is_parts(many, thing):
    """Whether this, of any kind, is PARTS of so many stuffs (NoMany)."""
    check_many(many)
    if not is_row_of(many, thing):
        return False
    if not all(is_whole(part) and part >= 0 for part in thing):
        return False
    return any(part > 0 for part in thing)


def are_bounds(thing):
    """Whether this, of any kind, is what a shade has for one stuff: (LOW, HIGH)."""
    if not is_row_of(2, thing):
        return False
    low, high = thing
    return is_whole(low) and is_whole(high) and 0 <= low <= high <= 100


def is_shade(many, thing):
    """Whether this, of any kind, is a SHADE of so many stuffs (NoMany)."""
    check_many(many)
    if not is_row_of(many, thing):
        return False
    if not all(are_bounds(bounds) for bounds in thing):
        return False
    lows = sum(low for low, high in thing)
    highs = sum(high for low, high in thing)
    return lows <= 100 <= highs


def check_shade(many, shade):
    """Refuse with NoShade what is no SHADE of so many stuffs (NoMany)."""
    if not is_shade(many, shade):
        raise NoShade("this is no shade of so many stuffs")


def is_stuffs(many, thing):
    """Whether this, of any kind, is STUFFS of so many stuffs."""
    if not is_row_of(many, thing):
        return False
    return all(is_fraction(stuff) and not below(stuff, NOUGHT) for stuff in thing)


def beyond(bounds, stuff, measures):
    """How far one stuff is beyond its LOW or its HIGH, below 0 where it is well within both."""
    low, high = bounds
    hundredths = times((100, 1), stuff)
    missing = minus(times((low, 1), measures), hundredths)
    surplus = minus(hundredths, times((high, 1), measures))
    return greater(missing, surplus)


def far(many, shade, stuffs):
    """How far STUFFS are from a SHADE, a fraction (NoMany, NoShade, NoStuffs)."""
    check_shade(many, shade)
    if not is_stuffs(many, stuffs):
        raise NoStuffs("these are no measures of so many stuffs")
    measures = total(stuffs)
    greatest = NOUGHT
    for bounds, stuff in zip(shade, stuffs):
        greatest = greater(greatest, beyond(bounds, stuff, measures))
    return greatest
