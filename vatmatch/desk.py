"""The desk: keeps a house, is told rows of words, and answers each with a text."""

from vatmatch.errors import NoName
from vatmatch.houses import House
from vatmatch.rows import check_row, dated_deed, fraction_word, name_of, number_of, row_of, words_of
from vatmatch.tracing import where_is

DONE = "ok"
NONE_TOLD = "nothing"
# What stands for all that was drained.
GONE_WORD = "-"

# For each row that isn't of a deed what stands behind its word.
PLACES = {
    "strike": ("number",),
    "back": (),
    "what": ("number", "name"),
    "where": ("number", "name"),
    "amiss": (),
    "book": (),
}


def places_of(forms, words):
    """What the words stand for, each of its form (NoRow)."""
    check_row(len(words) == len(forms))
    return [number_of(word) if form == "number" else name_of(word) for form, word in zip(forms, words)]


def or_nothing(text):
    """The text, or `nothing` where it has no signs."""
    return text if text != "" else NONE_TOLD


def amounts_text(rows):
    """Each NAME and AMOUNT, one behind the other."""
    return or_nothing(" ".join(f"{name or GONE_WORD} {fraction_word(amount)}" for name, amount in rows))


def content_at(house, hour, name):
    """The CONTENT of a holder that is there at an hour (NoHour, NoName)."""
    holders, gone = house.stands(hour)
    for holder, word, measures, content in holders:
        if holder == name:
            return content
    raise NoName("no lot, vat, jar or cloth of this name is there")


def answer_strike(house, places):
    """Strike the deed at an hour (NoHour, Fails)."""
    house.strike(places[0])
    return DONE


def answer_back(house, places):
    """Take back the last change (NoBack)."""
    house.back()
    return DONE


def answer_what(house, places):
    """What lies in a holder at an hour (NoHour, NoName)."""
    hour, name = places
    return amounts_text(content_at(house, hour, name))


def answer_where(house, places):
    """Where a lot lies at an hour (NoHour, NoName)."""
    hour, lot = places
    return amounts_text(where_is(house.many, house.book(), hour, lot))


def answer_amiss(house, places):
    """The cloths that are amiss, how far they were and how far they are."""
    rows = [f"{cloth} {fraction_word(then)} {fraction_word(now)}" for cloth, then, now in house.amiss()]
    return or_nothing(" ".join(rows))


def answer_book(house, places):
    """The row of each deed of the book."""
    return or_nothing("; ".join(row_of(hour, deed) for hour, deed in house.book()))


ANSWERS = {
    "strike": answer_strike,
    "back": answer_back,
    "what": answer_what,
    "where": answer_where,
    "amiss": answer_amiss,
    "book": answer_book,
}


class Desk:
    """A desk that keeps a house of MANY stuffs (NoMany)."""

    def __init__(self, many):
        self.house = House(many)

    def say(self, row):
        """The answer to a row (NoRow, then as the house refuses)."""
        words = words_of(row)
        word = words[0]
        if word in ANSWERS:
            answer = ANSWERS[word]
            return answer(self.house, places_of(PLACES[word], words[1:]))
        if word == "right":
            hour, deed = dated_deed(self.house.many, words[1:])
            self.house.right(hour, deed)
        else:
            hour, deed = dated_deed(self.house.many, words)
            self.house.enter(hour, deed)
        return DONE
