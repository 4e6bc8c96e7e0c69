"""Weighings of the stuffs, and the bound that they set to how near a mixing comes."""

from vatmatch.errors import NoWeights
from vatmatch.fractions import NOUGHT, below, fraction, is_fraction, minus, over, over_one_bottom, times, total
from vatmatch.shades import is_row_of
from vatmatch.shelves import check_enough, check_question


def check_weights(many, weights):
    """Refuse with NoWeights what is no WEIGHTS of so many stuffs."""
    if not is_row_of(many, weights) or not all(is_fraction(weight) for weight in weights):
        raise NoWeights("these are no weights of so many stuffs")


def weight_of(weights, parts):
    """What a measure with these PARTS weighs."""
    together = total([times(weight, (part, 1)) for weight, part in zip(weights, parts)])
    return over(together, (sum(parts), 1))


def lowest(shade, measures, weights):
    """The LOWEST: a hundred times what so many measures of the shade weigh is no less."""
    sides = [high if below(weight, NOUGHT) else low for weight, (low, high) in zip(weights, shade)]
    return times((measures, 1), total([times(weight, (side, 1)) for weight, side in zip(weights, sides)]))


def most_worth(shelf, measures, worths):
    """The most that a mixing is worth, a measure of each of the shelf being worth so much."""
    tops, bottom = over_one_bottom(worths)
    lefts = [left for name, left, parts in shelf]
    missing = measures
    together = 0
    for top, left in sorted(zip(tops, lefts), reverse=True):
        taken = min(left, missing)
        together += taken * top
        missing -= taken
    return fraction(together, bottom)


def bound(many, shelf, shade, measures, weights):
    """The BOUND by these WEIGHTS (NoMany, NoShelf, NoShade, NoMeasures, NoWeights, TooLittle)."""
    check_question(many, shelf, shade, measures)
    check_weights(many, weights)
    check_enough(shelf, measures)
    worths = [weight_of(weights, parts) for name, left, parts in shelf]
    return minus(lowest(shade, measures, weights), times((100, 1), most_worth(shelf, measures, worths)))
