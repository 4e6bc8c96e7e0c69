"""Books walked through: by what they fail, and what stands at an hour."""

from vatmatch.books import is_book, is_hour
from vatmatch.errors import Fails, NoBook, NoHour
from vatmatch.yards import GONE, Yard


def check_book(many, book):
    """Refuse with NoBook what is no book (NoMany)."""
    if not is_book(many, book):
        raise NoBook("this is no book of so many stuffs")


def first_failure(book):
    """(HOUR, WORD) of the first deed of a book that fails, or None."""
    yard = Yard()
    for hour, deed in book:
        word = yard.fails_by(deed)
        if word is not None:
            return (hour, word)
        yard.do(deed)
    return None


def check_stands(book):
    """Refuse with Fails a book that doesn't stand."""
    failure = first_failure(book)
    if failure is not None:
        raise Fails(failure[0], failure[1])


def fails_at(many, book):
    """(HOUR, WORD) of the first deed of a book that fails, or None where it stands (NoMany, NoBook)."""
    check_book(many, book)
    return first_failure(book)


def yard_at(many, book, hour):
    """The yard behind all deeds of a book up to an hour (NoMany, NoBook, Fails, NoHour)."""
    check_book(many, book)
    check_stands(book)
    if not is_hour(hour):
        raise NoHour("an hour is a whole number from 0 to 9999")
    yard = Yard()
    for at, deed in book:
        if at <= hour:
            yard.do(deed)
    return yard


def stands_at(many, book, hour):
    """What stands at an hour of a book: (HOLDERS, GONE) (NoMany, NoBook, Fails, NoHour)."""
    yard = yard_at(many, book, hour)
    holders = [(name, yard.words[name], yard.measures[name], yard.content(name)) for name in sorted(yard.words)]
    return (tuple(holders), yard.content(GONE))
