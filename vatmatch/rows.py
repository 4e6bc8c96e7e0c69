"""Rows of words parted by one blank: deeds read from them and written as them, and fractions as words."""

from vatmatch.errors import NoRow
from vatmatch.shades import is_name

MOST_FIGURES = 9

# For each word of a deed how many names stand behind it in a row; all behind these are numbers.
NAMES_OF_DEED = {"comes": 2, "vat": 1, "weigh": 2, "draw": 2, "pour": 2, "keep": 2, "dip": 2, "drain": 1}


def check_row(is_so):
    """Refuse with NoRow a row of which something isn't as it must be."""
    if not is_so:
        raise NoRow("this is no row that a desk takes")


def words_of(row):
    """The words of a row, empty ones too (NoRow of what is no text)."""
    check_row(isinstance(row, str))
    return row.split(" ")


def is_number_word(word):
    """Whether a word is a number: figures without noughts ahead but 0 itself, at most nine."""
    if not 1 <= len(word) <= MOST_FIGURES or not all("0" <= sign <= "9" for sign in word):
        return False
    return word == "0" or word[0] != "0"


def number_of(word):
    """The number that a word is (NoRow)."""
    check_row(is_number_word(word))
    return int(word)


def name_of(word):
    """The name that a word is (NoRow)."""
    check_row(is_name(word))
    return word


def count_of_numbers(many, word):
    """How many numbers stand behind the names of a deed of this word."""
    if word == "comes":
        return 1 + many
    if word == "dip":
        return 1 + 2 * many
    return 1


def deed_of(word, names, numbers):
    """The deed of this word with these names and numbers, as many of both as it has."""
    first, *others = numbers
    if word == "comes":
        return (word, *names, tuple(others), first)
    if word == "dip":
        return (word, *names, first, tuple(zip(others[::2], others[1::2])))
    return (word, *names, first)


def dated_deed(many, words):
    """The (HOUR, DEED) of the words of a row, `right` aside (NoRow)."""
    check_row(len(words) > 1 and words[1] in NAMES_OF_DEED)
    hour, word, *places = words
    count = NAMES_OF_DEED[word]
    check_row(len(places) == count + count_of_numbers(many, word))
    names = [name_of(place) for place in places[:count]]
    numbers = [number_of(place) for place in places[count:]]
    return (number_of(hour), deed_of(word, names, numbers))


def numbers_of(deed):
    """The numbers that stand behind the names of a deed in its row."""
    if deed[0] == "comes":
        word, lot, stock, parts, measures = deed
        return [measures, *parts]
    if deed[0] == "dip":
        word, vat, cloth, measures, shade = deed
        return [measures, *[side for bounds in shade for side in bounds]]
    return [deed[-1]]


def row_of(hour, deed):
    """The row by which a deed is entered at an hour."""
    last_name = NAMES_OF_DEED[deed[0]]
    return " ".join(str(word) for word in [hour, *deed[:last_name + 1], *numbers_of(deed)])


def fraction_word(number):
    """A fraction as `TOP/BOTTOM`, or as TOP where BOTTOM is 1."""
    top, bottom = number
    return str(top) if bottom == 1 else f"{top}/{bottom}"
