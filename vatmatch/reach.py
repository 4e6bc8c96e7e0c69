"""What a deed of a book reaches: the names of all that it may move, then or by later deeds."""

from vatmatch.books import is_hour
from vatmatch.errors import NoHour
from vatmatch.walks import check_book, check_stands

# At which places a deed has a LOT, VAT, FROM, JAR or CLOTH; a STOCK is reached by its lots alone.
OWN_PLACES = {
    "comes": (1,),
    "vat": (1,),
    "weigh": (1, 2),
    "draw": (2,),
    "pour": (1, 2),
    "keep": (1, 2),
    "dip": (1, 2),
    "drain": (1,),
}

# Deeds that carry on what is reached from their first name to their second; what is drained goes into nothing.
CARRYING = ("weigh", "pour", "keep", "dip")


def lots_ahead(book, hour, stock):
    """The lots of a stock that came ahead of an hour."""
    return [deed[1] for at, deed in book if at < hour and deed[0] == "comes" and deed[2] == stock]


def own_names(book, hour, deed):
    """The names that a deed at an hour reaches by itself."""
    names = [deed[place] for place in OWN_PLACES[deed[0]]]
    if deed[0] == "draw":
        return [*names, *lots_ahead(book, hour, deed[1])]
    return names


def carried_names(book, hour, deed, names):
    """The names to which a later deed carries on what has reached these names."""
    if deed[0] == "draw":
        lots = lots_ahead(book, hour, deed[1])
        return [*lots, deed[2]] if any(lot in names for lot in lots) else []
    if deed[0] in CARRYING and deed[1] in names:
        return [deed[2]]
    return []


def reached(many, book, hour):
    """The rising tuple of the names that the deed at an hour reaches (NoMany, NoBook, Fails, NoHour)."""
    check_book(many, book)
    check_stands(book)
    if not is_hour(hour) or all(at != hour for at, deed in book):
        raise NoHour("the book has no deed at this hour")
    names = []
    for at, deed in book:
        if at == hour:
            names = own_names(book, at, deed)
        elif at > hour:
            names = [*names, *carried_names(book, at, deed, names)]
    return tuple(sorted(set(names)))
