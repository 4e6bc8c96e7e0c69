"""Claims checked by their papers, with plain adding.

Only fractions and shades are used here, nothing by which claims and papers are found: so a fault there is seen here.
"""

from vatmatch.fractions import (
    NOUGHT, below, fraction, is_fraction, is_whole, minus, over, over_one_bottom, plus, times, total,
)
from vatmatch.shades import are_rising, far, is_many, is_measures, is_name, is_parts, is_row_of, is_shade

ONE = (1, 1)
HUNDRED = (100, 1)
MOST_ON_SHELF = 4
MOST_LEAVINGS = 8
MOST_CLOTHS = 8
MOST_PRICE = 999
MOST_IN_VAT = 99999


def is_stock_row(many, thing):
    """Whether this is what SHELF and LEAVINGS have for one thing: (NAME, LEFT, PARTS)."""
    return is_row_of(3, thing) and is_name(thing[0]) and is_measures(thing[1]) and is_parts(many, thing[2])


def is_stock(many, thing, most):
    """Whether this is a tuple of at most so many (NAME, LEFT, PARTS), NAMEs rising."""
    if not isinstance(thing, tuple) or len(thing) > most:
        return False
    return all(is_stock_row(many, row) for row in thing) and are_rising(thing)


def is_task(many, shelf, shade):
    """Whether these are MANY, a SHELF and a SHADE."""
    if not is_many(many) or not is_stock(many, shelf, MOST_ON_SHELF):
        return False
    return len(shelf) > 0 and is_shade(many, shade)


def are_prices(shelf, thing):
    """Whether these are PRICES of a SHELF."""
    return is_row_of(len(shelf), thing) and all(is_whole(price) and 0 <= price <= MOST_PRICE for price in thing)


def is_vat(many, thing):
    """Whether this is a VAT."""
    if not is_row_of(2, thing):
        return False
    measures, parts = thing
    return is_whole(measures) and 1 <= measures <= MOST_IN_VAT and is_parts(many, parts)


def are_weights(many, thing):
    """Whether these are WEIGHTS."""
    return is_row_of(many, thing) and all(is_fraction(weight) for weight in thing)


def is_part_of(left, thing):
    """Whether this is a fraction from 0 on, and not above what is left."""
    return is_fraction(thing) and not below(thing, NOUGHT) and not below((left, 1), thing)


def are_amounts(shelf, thing):
    """Whether these are AMOUNTS of a SHELF, of whatever sum."""
    if not is_row_of(len(shelf), thing):
        return False
    return all(is_part_of(row[1], amount) for row, amount in zip(shelf, thing))


def stuffs_in(measures, parts):
    """The STUFFS of so many measures, a fraction, with these PARTS."""
    return [times(measures, fraction(part, sum(parts))) for part in parts]


def stuffs_together(many, rows):
    """The STUFFS of all (MEASURES, PARTS) together."""
    stuffs = (NOUGHT,) * many
    for measures, parts in rows:
        stuffs = tuple(plus(one, other) for one, other in zip(stuffs, stuffs_in(measures, parts)))
    return stuffs


def taken_of(shelf, amounts):
    """The (MEASURES, PARTS) that AMOUNTS take of a SHELF."""
    return [(amount, row[2]) for row, amount in zip(shelf, amounts)]


def weight_of(weights, parts):
    """What a measure with these PARTS weighs."""
    return total([times(weight, stuff) for weight, stuff in zip(weights, stuffs_in(ONE, parts))])


def least_weight(shade, weights):
    """What a hundred measures of the SHADE weigh at least: each weight by LOW, those below 0 by HIGH."""
    sides = [high if below(weight, NOUGHT) else low for weight, (low, high) in zip(weights, shade)]
    return total([times(weight, (side, 1)) for weight, side in zip(weights, sides)])


def least_cost(shelf, costs, measures):
    """The least that a mixing costs, by what a measure of each costs: what costs least goes in first."""
    tops, bottom = over_one_bottom(costs)
    together = 0
    missing = measures
    for top, left in sorted(zip(tops, [row[1] for row in shelf])):
        taken = min(left, missing)
        together += taken * top
        missing -= taken
    return fraction(together, bottom)


def floor_by(shelf, shade, measures, prices, weights):
    """The FLOOR of a match, by WEIGHTS."""
    costs = [minus((price, 1), weight_of(weights, row[2])) for price, row in zip(prices, shelf)]
    lowest = times((measures, 1), least_weight(shade, weights))
    return plus(over(lowest, HUNDRED), least_cost(shelf, costs, measures))


def bound_by(shelf, shade, measures, weights):
    """The BOUND: a hundred times the FLOOR of a shelf on which nothing costs anything."""
    return times(HUNDRED, floor_by(shelf, shade, measures, [0] * len(shelf), weights))


def gain_by(shade, parts, weights):
    """What a measure with these PARTS GAINs."""
    return minus(times(HUNDRED, weight_of(weights, parts)), least_weight(shade, weights))


def more_by(vat, shelf, shade, weights):
    """The MORE of a mending, by WEIGHTS."""
    measures, parts_in = vat
    # What is needed is what the measures in the vat gain, with the other sign.
    together = times((-measures, 1), gain_by(shade, parts_in, weights))
    for name, left, parts in shelf:
        gain = gain_by(shade, parts, weights)
        if below(ONE, gain):
            together = plus(together, times((left, 1), minus(ONE, gain)))
    return together


def is_mixing(shelf, thing, measures):
    """Whether these are AMOUNTS of a mixing of M measures."""
    return are_amounts(shelf, thing) and total(thing) == (measures, 1)


def far_of(many, shade, rows):
    """How far all (MEASURES, PARTS) together are from a SHADE."""
    return far(many, shade, stuffs_together(many, rows))


def shows_near(shelf, shade, measures, distance, weights):
    """Whether WEIGHTS show that no mixing is nearer than this FAR."""
    if below(NOUGHT, distance) and all(weight == NOUGHT for weight in weights):
        return False
    sizes = total([(abs(weight[0]), weight[1]) for weight in weights])
    return not below(bound_by(shelf, shade, measures, weights), times(sizes, distance))


def holds_near(rest, paper):
    """Whether a claim "near", the rest behind its word, is taken with this paper."""
    if not is_row_of(5, rest) or not is_row_of(2, paper):
        return False
    many, shelf, shade, measures, distance = rest
    amounts, weights = paper
    if not is_task(many, shelf, shade) or not is_measures(measures) or not is_fraction(distance):
        return False
    if not is_mixing(shelf, amounts, measures) or not are_weights(many, weights):
        return False
    if far_of(many, shade, taken_of(shelf, amounts)) != distance:
        return False
    return shows_near(shelf, shade, measures, distance, weights)


def holds_cheap(rest, paper):
    """Whether a claim "cheap", the rest behind its word, is taken with this paper."""
    if not is_row_of(6, rest) or not is_row_of(2, paper):
        return False
    many, shelf, shade, measures, prices, cost = rest
    amounts, weights = paper
    if not is_task(many, shelf, shade) or not is_measures(measures):
        return False
    if not are_prices(shelf, prices) or not is_fraction(cost):
        return False
    if not is_mixing(shelf, amounts, measures) or not are_weights(many, weights):
        return False
    if far_of(many, shade, taken_of(shelf, amounts)) != NOUGHT:
        return False
    if total([times((price, 1), amount) for price, amount in zip(prices, amounts)]) != cost:
        return False
    return not below(floor_by(shelf, shade, measures, prices, weights), cost)


def is_mending_task(many, vat, shelf, shade):
    """Whether these are MANY, a VAT, a SHELF and a SHADE."""
    return is_task(many, shelf, shade) and is_vat(many, vat)


def holds_more(rest, paper):
    """Whether a claim "more", the rest behind its word, is taken with this paper."""
    if not is_row_of(5, rest) or not is_row_of(2, paper):
        return False
    many, vat, shelf, shade, added = rest
    amounts, weights = paper
    if not is_mending_task(many, vat, shelf, shade) or not is_fraction(added):
        return False
    if not are_amounts(shelf, amounts) or not are_weights(many, weights):
        return False
    measures, parts_in = vat
    if far_of(many, shade, [((measures, 1), parts_in), *taken_of(shelf, amounts)]) != NOUGHT:
        return False
    return total(amounts) == added and not below(more_by(vat, shelf, shade, weights), added)


def holds_above(rest, paper):
    """Whether a claim "above", the rest behind its word, is taken with this paper."""
    if not is_row_of(5, rest):
        return False
    many, vat, shelf, shade, room = rest
    if not is_mending_task(many, vat, shelf, shade) or not is_whole(room) or room < 0:
        return False
    return are_weights(many, paper) and below((room, 1), more_by(vat, shelf, shade, paper))


def is_cloth(many, thing):
    """Whether this is one of CLOTHS: (NAME, M, SHADE)."""
    return is_row_of(3, thing) and is_name(thing[0]) and is_measures(thing[1]) and is_shade(many, thing[2])


def are_cloths(many, thing):
    """Whether these are CLOTHS."""
    if not isinstance(thing, tuple) or len(thing) > MOST_CLOTHS:
        return False
    return all(is_cloth(many, row) for row in thing) and are_rising(thing)


def serving_pairs(many, leavings, cloths):
    """All (CLOTH, LEAVING), NAMEs, of what serves a cloth."""
    return [
        (cloth, leaving)
        for leaving, left, parts in leavings
        for cloth, measures, shade in cloths
        if left >= measures and far_of(many, shade, [((measures, 1), parts)]) == NOUGHT
    ]


def are_pairs(thing, serving):
    """Whether these are PAIRS, of those that serve, no cloth and none of LEAVINGS in two."""
    if not isinstance(thing, tuple):
        return False
    if not all(is_row_of(2, pair) and is_name(pair[0]) and is_name(pair[1]) for pair in thing):
        return False
    if not all(pair in serving for pair in thing) or not are_rising(thing):
        return False
    return len({pair[1] for pair in thing}) == len(thing)


def are_names_of(rows, thing):
    """Whether this is a rising tuple of NAMEs of these rows."""
    if not isinstance(thing, tuple) or not all(is_name(name) for name in thing):
        return False
    names = [row[0] for row in rows]
    return all(name in names for name in thing) and are_rising([(name,) for name in thing])


def is_cover(leavings, cloths, thing, serving):
    """Whether this is a COVER of all that serve, of however many names."""
    if not is_row_of(2, thing):
        return False
    of_leavings, of_cloths = thing
    if not are_names_of(leavings, of_leavings) or not are_names_of(cloths, of_cloths):
        return False
    return all(leaving in of_leavings or cloth in of_cloths for cloth, leaving in serving)


def holds_served(rest, paper):
    """Whether a claim "served", the rest behind its word, is taken with this paper."""
    if not is_row_of(4, rest) or not is_row_of(2, paper):
        return False
    many, leavings, cloths, how = rest
    pairs, cover = paper
    if not is_many(many) or not is_stock(many, leavings, MOST_LEAVINGS) or not are_cloths(many, cloths):
        return False
    serving = serving_pairs(many, leavings, cloths)
    if not are_pairs(pairs, serving) or not is_cover(leavings, cloths, cover, serving):
        return False
    return is_whole(how) and len(pairs) == how and len(cover[0]) + len(cover[1]) == how


# For each word of a claim what checks it.
CHECKS = {
    "near": holds_near,
    "cheap": holds_cheap,
    "more": holds_more,
    "above": holds_above,
    "served": holds_served,
}


def holds(claim, paper):
    """Whether a claim is taken with its paper, both of any kind."""
    if not isinstance(claim, tuple) or len(claim) == 0:
        return False
    word = claim[0]
    # What is no text may be no key at all.
    if not isinstance(word, str) or word not in CHECKS:
        return False
    check = CHECKS[word]
    return check(claim[1:], paper)
