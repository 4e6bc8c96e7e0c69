"""The cheapest match, and the weighing that shows that none costs less."""

from vatmatch.errors import NoPrices
from vatmatch.fractions import NOUGHT, is_whole, minus, over, times, total
from vatmatch.nearest import amounts_of, nearest, weighing_gains, weighing_row, weights_of
from vatmatch.shades import is_row_of
from vatmatch.shelves import check_enough, check_question
from vatmatch.simplex import most_gain
from vatmatch.weighings import check_weights, lowest, most_worth, weight_of

MOST_PRICE = 999


def is_price(thing):
    """Whether this, of any kind, is what a measure may cost."""
    return is_whole(thing) and 0 <= thing <= MOST_PRICE


def check_prices(shelf, prices):
    """Refuse with NoPrices what is no PRICES of a shelf."""
    if not is_row_of(len(shelf), prices) or not all(is_price(price) for price in prices):
        raise NoPrices("these are no prices of all that is on the shelf")


def floor_of(many, shelf, shade, measures, prices, weights):
    """The FLOOR by these WEIGHTS (NoMany, NoShelf, NoShade, NoMeasures, NoPrices, NoWeights, TooLittle)."""
    check_question(many, shelf, shade, measures)
    check_prices(shelf, prices)
    check_weights(many, weights)
    check_enough(shelf, measures)
    # What costs least, its weight taken off, is what is worth most, its price taken off.
    worths = [minus(weight_of(weights, row[2]), (price, 1)) for row, price in zip(shelf, prices)]
    return minus(over(lowest(shade, measures, weights), (100, 1)), most_worth(shelf, measures, worths))


def cheapest_match(many, shelf, shade, measures, prices):
    """(COST, AMOUNTS, WEIGHTS) of a cheapest match, of a shelf that has a match.

    Sought are weights with the greatest FLOOR, as in the search for the nearest, but that a hundred measures of one of
    the shelf may weigh as much more as they cost. As there is a match, the FLOOR doesn't grow without end.
    """
    rows = [weighing_row(shelf, at) for at in range(len(shelf))]
    limits = [100 * price * sum(parts) for price, (name, left, parts) in zip(prices, shelf)]
    numbers, portions = most_gain(weighing_gains(shelf, shade, measures), rows, limits)
    amounts = amounts_of(shelf, portions)
    cost = total([times((price, 1), amount) for price, amount in zip(prices, amounts)])
    return (cost, amounts, weights_of(many, numbers))


def cheapest(many, shelf, shade, measures, prices):
    """("costs", COST, AMOUNTS, WEIGHTS) of a cheapest match, or ("none", FAR, AMOUNTS, WEIGHTS) of a nearest mixing.

    Refused with NoMany, NoShelf, NoShade, NoMeasures, NoPrices, TooLittle.
    """
    check_question(many, shelf, shade, measures)
    check_prices(shelf, prices)
    distance, amounts, weights = nearest(many, shelf, shade, measures)
    if distance != NOUGHT:
        return ("none", distance, amounts, weights)
    return ("costs", *cheapest_match(many, shelf, shade, measures, prices))
