"""The mending of a vat that adds least, and the weighing that shows that none adds less."""

from vatmatch.books import MOST_BRIM, is_brim
from vatmatch.errors import NoBrim, NoVat
from vatmatch.fractions import below, fraction, is_whole, minus, plus, times, total
from vatmatch.nearest import weights_of
from vatmatch.shades import check_many, check_shade, is_parts, is_row_of
from vatmatch.shelves import check_shelf
from vatmatch.simplex import most_gain
from vatmatch.weighings import check_weights, lowest, weight_of

ONE = (1, 1)


def is_vat(many, thing):
    """Whether this, of any kind, is a VAT: (MEASURES, PARTS) (NoMany)."""
    check_many(many)
    return is_row_of(2, thing) and is_brim(thing[0]) and is_parts(many, thing[1])


def check_mending(many, vat, shelf, shade):
    """Refuse what no mending can be asked with (NoMany, NoVat, NoShelf, NoShade)."""
    if not is_vat(many, vat):
        raise NoVat("a vat is its measures and its parts")
    check_shelf(many, shelf)
    check_shade(many, shade)


def check_brim(vat, brim):
    """Refuse with NoBrim what is no BRIM of this vat."""
    if not is_whole(brim) or not vat[0] <= brim <= MOST_BRIM:
        raise NoBrim("BRIM is a whole number from MEASURES to 99999")


def gain_of(shade, weights, parts):
    """What a measure with these PARTS GAINs."""
    return minus(times((100, 1), weight_of(weights, parts)), lowest(shade, 1, weights))


def more_by(vat, shelf, shade, weights):
    """The MORE that more tells, of arguments that it doesn't refuse."""
    measures, parts_in = vat
    # NEED is what the measures in the vat gain, with the other sign.
    together = times((-measures, 1), gain_of(shade, weights, parts_in))
    for name, left, parts in shelf:
        gain = gain_of(shade, weights, parts)
        if below(ONE, gain):
            together = plus(together, times((left, 1), minus(ONE, gain)))
    return together


def more(many, vat, shelf, shade, weights):
    """The MORE by these WEIGHTS (NoMany, NoVat, NoShelf, NoShade, NoWeights)."""
    check_mending(many, vat, shelf, shade)
    check_weights(many, weights)
    return more_by(vat, shelf, shade, weights)


def margins(shade, parts):
    """What a measure has, in hundredths, above each LOW, and lacks of each HIGH; all is times its parts together."""
    every = sum(parts)
    above = [100 * part - low * every for part, (low, high) in zip(parts, shade)]
    under = [high * every - 100 * part for part, (low, high) in zip(parts, shade)]
    return [*above, *under]


def mending_row(shelf, shade, at):
    """A measure of one of the shelf gains no more than 1 and what is beyond; all is times its parts together."""
    parts = shelf[at][2]
    beyond = [-sum(parts) if at == other else 0 for other in range(len(shelf))]
    return [*margins(shade, parts), *beyond]


def least_mending(many, vat, shelf, shade):
    """(AMOUNTS, WEIGHTS) of a mending that adds least; where there is none the MORE of WEIGHTS is above all LEFT.

    Sought are weights with the greatest MORE, the prices of the limits being the amounts. Without a mending MORE would
    grow without end, so it is kept from growing further than by one above all LEFT, where it has shown enough; with a
    mending it doesn't come as far, and this limit has no price.
    """
    measures, parts_in = vat
    every = sum(parts_in)
    lefts = [left for name, left, parts in shelf]
    gains = [-measures * margin for margin in margins(shade, parts_in)] + [-every * left for left in lefts]
    rows = [mending_row(shelf, shade, at) for at in range(len(shelf))]
    limits = [sum(parts) for name, left, parts in shelf]
    numbers, prices = most_gain(gains, [*rows, gains], [*limits, every * (sum(lefts) + 1)])
    # The gains are as many times too great as the vat's parts are together, and so are the prices.
    amounts = tuple(times(price, fraction(limit, every)) for price, limit in zip(prices, limits))
    return (amounts, weights_of(many, numbers))


def mend(many, vat, shelf, shade, brim):
    """("adds", ADDED, AMOUNTS, WEIGHTS) or ("brim", ADDED, AMOUNTS, WEIGHTS) of a least mending, or ("never", WEIGHTS).

    Refused with NoMany, NoVat, NoShelf, NoShade, NoBrim.
    """
    check_mending(many, vat, shelf, shade)
    check_brim(vat, brim)
    amounts, weights = least_mending(many, vat, shelf, shade)
    left = sum(row[1] for row in shelf)
    if below((left, 1), more_by(vat, shelf, shade, weights)):
        return ("never", weights)
    added = total(amounts)
    word = "brim" if below((brim - vat[0], 1), added) else "adds"
    return (word, added, amounts, weights)
