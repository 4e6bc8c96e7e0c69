"""Shelves, and what a mixing out of one is asked with."""

from vatmatch.errors import NoMeasures, NoShelf, TooLittle
from vatmatch.shades import are_rising, check_many, check_shade, is_measures, is_name, is_parts, is_row_of

MOST_ON_SHELF = 4


def is_shelf_row(many, thing):
    """Whether this, of any kind, is what a shelf has for one thing: (NAME, LEFT, PARTS)."""
    if not is_row_of(3, thing):
        return False
    name, left, parts = thing
    return is_name(name) and is_measures(left) and is_parts(many, parts)


def is_shelf(many, thing):
    """Whether this, of any kind, is a SHELF (NoMany)."""
    check_many(many)
    if not isinstance(thing, tuple) or not 1 <= len(thing) <= MOST_ON_SHELF:
        return False
    return all(is_shelf_row(many, row) for row in thing) and are_rising(thing)


def check_shelf(many, shelf):
    """Refuse with NoShelf what is no SHELF (NoMany)."""
    if not is_shelf(many, shelf):
        raise NoShelf("this is no shelf of one to four things")


def check_measures(measures):
    """Refuse with NoMeasures what is no number M of measures."""
    if not is_measures(measures):
        raise NoMeasures("M is a whole number from 1 to 9999")


def check_question(many, shelf, shade, measures):
    """Refuse what no mixing can be asked with, but not yet too little (NoMany, NoShelf, NoShade, NoMeasures)."""
    check_shelf(many, shelf)
    check_shade(many, shade)
    check_measures(measures)


def check_enough(shelf, measures):
    """Refuse with TooLittle a shelf on which fewer measures are left."""
    if sum(left for name, left, parts in shelf) < measures:
        raise TooLittle("fewer measures are left on the shelf")
