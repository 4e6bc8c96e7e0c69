"""Points 17, 19 and 21 said again in Python's own fractions, and weights, prices and vats to ask with, right and wrong."""

import math
import random
from fractions import Fraction

from tests.mixings import GOOD, some_question, stuffs_of_mixing
from tests.model import MANYS, between, told
from tests.things import GREAT, far_as_told, fraction_as_told, parts_as_told, put

NOUGHTS = {many: ((0, 1),) * many for many in MANYS}
BAD_WEIGHTS = [
    None, (), 1, "ab", [(0, 1), (0, 1)], ((0, 1),), ((0, 1),) * 5, (1, 1), ((0, 1), 1), ((2, 4), (0, 1)), ((0, 2), (0, 1)),
    ((1, 0), (0, 1)), ((1, -1), (0, 1)), ((True, 1), (0, 1)), ((1, True), (0, 1)), ([0, 1], (0, 1)), ((0, 1), None), {},
]
# Of a shelf of two things.
BAD_PRICES = [
    None, (), 1, "ab", [1, 2], (1,), (1, 2, 3), (1, -1), (-1, 1), (1, 1000), (1000, 1), (GREAT, 1), (True, 1), (1, False),
    (1, None), ("1", 1), ((1, 1), (1, 1)), ([1], 1), {}, {0: 1, 1: 1}, len,
]
GOOD_VATS = {2: (5, (1, 3)), 3: (99999, (0, 0, 7)), 4: (1, (1, 2, 3, 4))}


def bad_vats(many):
    """What is no VAT of so many stuffs."""
    vat = GOOD_VATS[many]
    wrong = [None, (), 1, "ab", [*vat], (vat[0],), (*vat, 1), vat[::-1], vat[1], {}, {0: 5, 1: vat[1]}, len]
    wrong += [put(vat, 0, measures) for measures in (0, -1, 100000, GREAT, True, False, None, "5", (5, 1), [5])]
    wrong += [put(vat, 1, parts) for parts in ((0,) * many, (1,) * (many + 1), (1,) * (many - 1), [1] * many, None, 1)]
    wrong += [put(vat, 1, put(vat[1], 0, part)) for part in (-1, True, False, None, "1", (1,), [1])]
    return wrong


def vat_as_told(many, thing):
    """Whether this is a VAT, by point 21."""
    return type(thing) is tuple and len(thing) == 2 and between(thing[0], 1, 99999) and parts_as_told(many, thing[1])


def prices_as_told(shelf, thing):
    """Whether this is PRICES, by point 19."""
    return type(thing) is tuple and len(thing) == len(shelf) and all(between(price, 0, 999) for price in thing)


def weights_as_told(many, thing):
    """Whether this is WEIGHTS, by point 17."""
    return type(thing) is tuple and len(thing) == many and all(map(fraction_as_told, thing))


def weighed(weights, parts):
    """What a measure with these PARTS weighs."""
    return sum(weight * part for weight, part in zip(weights, parts)) / Fraction(sum(parts))


def lowest_as_told(shade, measures, weights):
    return measures * sum(min(weight * low, weight * high) for weight, (low, high) in zip(weights, shade))


def poured_in_turn(lasting, measures):
    """So many measures of (WORTH, LEFT), one behind the other as they stand, each as far as it lasts."""
    together = Fraction(0)
    for worth, left in lasting:
        some = min(left, measures)
        together += worth * some
        measures -= some
    return together


def bound_as_told(shelf, shade, measures, weights):
    """Point 17, said again: what weighs most goes in first."""
    weights = [Fraction(*weight) for weight in weights]
    lasting = [(weighed(weights, parts), left) for name, left, parts in shelf]
    return told(lowest_as_told(shade, measures, weights) - 100 * poured_in_turn(sorted(lasting)[::-1], measures))


def floor_as_told(shelf, shade, measures, prices, weights):
    """Point 19, said again: what costs least goes in first."""
    weights = [Fraction(*weight) for weight in weights]
    lasting = [(price - weighed(weights, parts), left) for price, (name, left, parts) in zip(prices, shelf)]
    return told(lowest_as_told(shade, measures, weights) / Fraction(100) + poured_in_turn(sorted(lasting), measures))


def more_as_told(vat, shelf, shade, weights):
    """Point 21, said again, stuff by stuff."""
    measures, parts_in = vat
    weights = [Fraction(*weight) for weight in weights]
    sides = [low if weight >= 0 else high for weight, (low, high) in zip(weights, shade)]
    stuffs = [Fraction(measures * part, sum(parts_in)) for part in parts_in]
    need = sum(weight * (side * measures - 100 * stuff) for weight, side, stuff in zip(weights, sides, stuffs))
    for name, left, parts in shelf:
        shares = [Fraction(part, sum(parts)) for part in parts]
        gain = sum(weight * (100 * share - side) for weight, side, share in zip(weights, sides, shares))
        if gain > 1:
            need += left * (1 - gain)
    return told(need)


def stuffs_mended(many, vat, shelf, amounts):
    """The STUFFS in a VAT behind a mending."""
    added = stuffs_of_mixing(many, shelf, amounts)
    return [Fraction(vat[0] * part, sum(vat[1])) + stuff for part, stuff in zip(vat[1], added)]


def far_mended(many, vat, shelf, shade, amounts):
    return far_as_told(shade, [told(stuff) for stuff in stuffs_mended(many, vat, shelf, amounts)])


def cost_of(prices, amounts):
    return sum(price * Fraction(amount) for price, amount in zip(prices, amounts))


def some_weights(many, chance):
    return tuple(told(Fraction(chance.randint(-20, 20), chance.choice((1, 1, 2, 3, 7, 100)))) for stuff in range(many))


def great_weights(many, chance):
    """Weights of thirty figures."""
    sizes = [chance.randint(10 ** 29, 10 ** 30 - 1) for stuff in range(2 * many)]
    return tuple(told(Fraction(chance.choice((-1, 1)) * sizes[at], sizes[many + at])) for at in range(many))


def some_prices(shelf, chance):
    return tuple(chance.choice((0, 1, 2, 5, 17, 999, chance.randint(0, 999))) for row in shelf)


def some_mixing(shelf, measures, chance):
    """Amounts of a mixing, taken by chance: the shelf is emptied in a turn by chance, by parts of what is left."""
    amounts = [Fraction(0)] * len(shelf)
    missing = Fraction(measures)
    places = list(range(len(shelf)))
    chance.shuffle(places)
    for at in places:
        amounts[at] = min(Fraction(shelf[at][1]), missing) * Fraction(chance.randint(0, 6), 6)
        missing -= amounts[at]
    for at in places:
        some = min(shelf[at][1] - amounts[at], missing)
        amounts[at] += some
        missing -= some
    return amounts


def shade_around(stuffs, chance):
    """A shade from which these STUFFS are 0 far, taken by chance."""
    together = sum(stuffs)
    shade = []
    for stuff in stuffs:
        part = 100 * stuff / together
        low, high = math.floor(part), math.ceil(part)
        shade.append((max(0, low - chance.choice((0, 0, 1, 30))), min(100, high + chance.choice((0, 0, 1, 30)))))
    return tuple(shade)


def some_measures(shelf, chance):
    lasting = min(9999, sum(row[1] for row in shelf))
    return chance.choice((1, lasting, chance.randint(1, lasting)))


def some_match(seed):
    """(many, shelf, shade, measures, amounts): a question that has a match, and this match, taken by chance."""
    many, shelf, shade = some_question(seed)
    chance = random.Random(seed)
    measures = some_measures(shelf, chance)
    amounts = some_mixing(shelf, measures, chance)
    return many, shelf, shade_around(stuffs_of_mixing(many, shelf, amounts), chance), measures, amounts


def some_vat(many, chance):
    parts = chance.choice((*[row[2] for row in GOOD[many]], tuple(chance.randint(0, 9) + 1 for stuff in range(many))))
    return (chance.choice((1, 2, 5, 12, 40, 99999)), parts)


def some_mended(seed):
    """(many, vat, shelf, shade, amounts): a vat that can be mended, and a mending, taken by chance."""
    many, shelf, shade = some_question(seed)
    chance = random.Random(seed)
    vat = some_vat(many, chance)
    amounts = [Fraction(row[1] * chance.choice((0, 0, 1, 2, 5, 6)), 6) for row in shelf]
    return many, vat, shelf, shade_around(stuffs_mended(many, vat, shelf, amounts), chance), amounts
