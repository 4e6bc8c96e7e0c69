"""Deeds, and books of them: what is one, told of things of any kind."""

from vatmatch.fractions import is_whole
from vatmatch.shades import are_rising, check_many, is_measures, is_name, is_parts, is_row_of, is_shade

MOST_DEEDS = 40
LAST_HOUR = 9999
MOST_BRIM = 99999
MOST_PART = 99

# For each word of a deed what stands behind it, place by place.
FORMS = {
    "comes": ("name", "name", "parts", "measures"),
    "vat": ("name", "brim"),
    "weigh": ("name", "name", "measures"),
    "draw": ("name", "name", "measures"),
    "pour": ("name", "name", "measures"),
    "keep": ("name", "name", "measures"),
    "dip": ("name", "name", "measures", "shade"),
    "drain": ("name", "measures"),
}


def is_hour(thing):
    """Whether this, of any kind, is an hour."""
    return is_whole(thing) and 0 <= thing <= LAST_HOUR


def is_brim(thing):
    """Whether this, of any kind, can be the brim of a vat."""
    return is_whole(thing) and 1 <= thing <= MOST_BRIM


def are_lot_parts(many, thing):
    """Whether this, of any kind, is PARTS that a lot may come with."""
    return is_parts(many, thing) and max(thing) <= MOST_PART


def has_form(many, form, thing):
    """Whether this, of any kind, is of a form that FORMS names."""
    if form == "name":
        return is_name(thing)
    if form == "measures":
        return is_measures(thing)
    if form == "brim":
        return is_brim(thing)
    if form == "shade":
        return is_shade(many, thing)
    return are_lot_parts(many, thing)


def is_deed(many, thing):
    """Whether this, of any kind, is a deed (NoMany)."""
    check_many(many)
    if not isinstance(thing, tuple) or len(thing) == 0:
        return False
    word, *places = thing
    # What is no text may be no key at all.
    if not isinstance(word, str) or word not in FORMS:
        return False
    forms = FORMS[word]
    if len(places) != len(forms):
        return False
    if not all(has_form(many, form, place) for form, place in zip(forms, places)):
        return False
    return word != "pour" or places[0] != places[1]


def is_dated_deed(many, thing):
    """Whether this, of any kind, is what a book has for one deed: (HOUR, DEED)."""
    return is_row_of(2, thing) and is_hour(thing[0]) and is_deed(many, thing[1])


def is_book(many, thing):
    """Whether this, of any kind, is a book (NoMany)."""
    check_many(many)
    if not isinstance(thing, tuple) or len(thing) > MOST_DEEDS:
        return False
    return all(is_dated_deed(many, row) for row in thing) and are_rising(thing)
