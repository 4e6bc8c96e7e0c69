"""The nearest mixing, and the weighing that shows that none is nearer."""

from vatmatch.fractions import NOUGHT, minus, times
from vatmatch.shelves import check_enough, check_question
from vatmatch.simplex import most_gain


def weighing_gains(shelf, shade, measures):
    """What a weighing gains towards its BOUND: by weights above 0, the sizes of those below, and what a mixing weighs.

    A mixing weighs at most M times some worth, and for each of the shelf LEFT times what a measure of it weighs beyond
    that worth. The worth may be below 0, so it has two columns.
    """
    lows = [low * measures for low, high in shade]
    highs = [-high * measures for low, high in shade]
    lefts = [-left for name, left, parts in shelf]
    return [*lows, *highs, -measures, measures, *lefts]


def weighing_row(shelf, at):
    """A hundred measures of one of the shelf weigh no more than its worth; all is times its parts together."""
    parts = shelf[at][2]
    every = sum(parts)
    above = [100 * part for part in parts]
    under = [-100 * part for part in parts]
    beyond = [-every if at == other else 0 for other in range(len(shelf))]
    return [*above, *under, -every, every, *beyond]


def amounts_of(shelf, portions):
    """The AMOUNTS of a mixing, by the prices of the limits of its weighing rows."""
    return tuple(times(portion, (sum(parts), 1)) for portion, (name, left, parts) in zip(portions, shelf))


def weights_of(many, numbers):
    """The WEIGHTS, by numbers that begin with those above 0 and the sizes of those below."""
    return tuple(minus(numbers[stuff], numbers[many + stuff]) for stuff in range(many))


def nearest(many, shelf, shade, measures):
    """(FAR, AMOUNTS, WEIGHTS) of a nearest mixing (NoMany, NoShelf, NoShade, NoMeasures, TooLittle).

    Sought are weights, their sizes together at most 1, with the greatest BOUND. The prices of the limits are the
    amounts of a mixing that is just as far, by which neither can be bettered.
    """
    check_question(many, shelf, shade, measures)
    check_enough(shelf, measures)
    rows = [weighing_row(shelf, at) for at in range(len(shelf))]
    sizes = [1] * (2 * many) + [0] * (2 + len(shelf))
    limits = [0] * len(shelf) + [1]
    numbers, prices = most_gain(weighing_gains(shelf, shade, measures), [*rows, sizes], limits)
    *portions, distance = prices
    weights = (NOUGHT,) * many if distance == NOUGHT else weights_of(many, numbers)
    return (distance, amounts_of(shelf, portions), weights)
