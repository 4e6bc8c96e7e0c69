"""Point 24 said again in Python's own fractions, and claims with papers that are right."""

import random
from fractions import Fraction

from tests.mixings import (
    cloths_are_told, far_of_mixing, leavings_are_told, serves_as_told, shelf_is_told, some_leavings_and_cloths,
    some_question,
)
from tests.model import between, told
from tests.things import fraction_as_told, shade_as_told, whole
from tests.weighed import (
    bound_as_told, cost_of, far_mended, floor_as_told, more_as_told, prices_as_told, some_match, some_measures, some_mended,
    some_prices, some_vat, vat_as_told, weights_as_told,
)
from vatmatch.papers import paper_cheap, paper_mend, paper_near, paper_served

WORDS = ("near", "cheap", "more", "above", "served")
LENGTHS = {"near": 6, "cheap": 7, "more": 6, "above": 6, "served": 5}


def pair_as_told(thing):
    return type(thing) is tuple and len(thing) == 2


def amounts_as_told(shelf, thing):
    """Whether these are fractions from 0 on, one for each of the SHELF, none above its LEFT."""
    if type(thing) is not tuple or len(thing) != len(shelf) or not all(map(fraction_as_told, thing)):
        return False
    return all(0 <= Fraction(*amount) <= row[1] for amount, row in zip(thing, shelf))


def mixing_as_told(shelf, measures, thing):
    return amounts_as_told(shelf, thing) and sum(Fraction(*amount) for amount in thing) == measures


def reckoned(fractions):
    return [Fraction(*one) for one in fractions]


def near_as_told(many, shelf, shade, measures, distance, paper):
    if not shelf_is_told(many, shelf) or not shade_as_told(many, shade) or not between(measures, 1, 9999):
        return False
    if not fraction_as_told(distance) or not pair_as_told(paper):
        return False
    if not mixing_as_told(shelf, measures, paper[0]) or not weights_as_told(many, paper[1]):
        return False
    if far_of_mixing(many, shelf, shade, reckoned(paper[0])) != distance:
        return False
    if distance[0] > 0 and not any(weight[0] for weight in paper[1]):
        return False
    sizes = sum(map(abs, reckoned(paper[1])))
    return sizes * Fraction(*distance) <= Fraction(*bound_as_told(shelf, shade, measures, paper[1]))


def cheap_as_told(many, shelf, shade, measures, prices, cost, paper):
    if not shelf_is_told(many, shelf) or not shade_as_told(many, shade) or not between(measures, 1, 9999):
        return False
    if not prices_as_told(shelf, prices) or not fraction_as_told(cost) or not pair_as_told(paper):
        return False
    if not mixing_as_told(shelf, measures, paper[0]) or not weights_as_told(many, paper[1]):
        return False
    if far_of_mixing(many, shelf, shade, reckoned(paper[0])) != (0, 1):
        return False
    if told(cost_of(prices, reckoned(paper[0]))) != cost:
        return False
    return Fraction(*cost) <= Fraction(*floor_as_told(shelf, shade, measures, prices, paper[1]))


def mending_as_told(many, vat, shelf, shade):
    return vat_as_told(many, vat) and shelf_is_told(many, shelf) and shade_as_told(many, shade)


def more_claim_as_told(many, vat, shelf, shade, added, paper):
    if not mending_as_told(many, vat, shelf, shade) or not fraction_as_told(added) or not pair_as_told(paper):
        return False
    if not amounts_as_told(shelf, paper[0]) or not weights_as_told(many, paper[1]):
        return False
    if far_mended(many, vat, shelf, shade, reckoned(paper[0])) != (0, 1):
        return False
    if told(sum(reckoned(paper[0]))) != added:
        return False
    return Fraction(*added) <= Fraction(*more_as_told(vat, shelf, shade, paper[1]))


def above_as_told(many, vat, shelf, shade, room, paper):
    if not mending_as_told(many, vat, shelf, shade) or not whole(room) or room < 0 or not weights_as_told(many, paper):
        return False
    return Fraction(*more_as_told(vat, shelf, shade, paper)) > room


def rising_names(thing, rows):
    """Whether this is a rising tuple of NAMEs of these rows."""
    if type(thing) is not tuple or not all(type(name) is str for name in thing):
        return False
    return list(thing) == sorted(set(thing)) and set(thing) <= {row[0] for row in rows}


def served_as_told(many, leavings, cloths, how, paper):
    if not leavings_are_told(many, leavings) or not cloths_are_told(many, cloths) or not whole(how):
        return False
    if not pair_as_told(paper) or type(paper[0]) is not tuple or not pair_as_told(paper[1]):
        return False
    pairs, (covering, covered) = paper
    if not all(pair_as_told(pair) and type(pair[0]) is str and type(pair[1]) is str for pair in pairs):
        return False
    serving = {(cloth[0], leaving[0]) for cloth in cloths for leaving in leavings if serves_as_told(leaving, cloth)}
    if list(pairs) != sorted(set(pairs)) or not set(pairs) <= serving:
        return False
    if len({cloth for cloth, leaving in pairs}) < len(pairs) or len({leaving for cloth, leaving in pairs}) < len(pairs):
        return False
    if not rising_names(covering, leavings) or not rising_names(covered, cloths):
        return False
    if not all(cloth in covered or leaving in covering for cloth, leaving in serving):
        return False
    return how == len(pairs) == len(covering) + len(covered)


CHECKS = {
    "near": near_as_told, "cheap": cheap_as_told, "more": more_claim_as_told, "above": above_as_told,
    "served": served_as_told,
}


def holds_as_told(claim, paper):
    """Point 24, said again."""
    if type(claim) is not tuple or not claim or type(claim[0]) is not str or claim[0] not in WORDS:
        return False
    if len(claim) != LENGTHS[claim[0]] or not between(claim[1], 2, 4):
        return False
    return CHECKS[claim[0]](*claim[1:], paper)


def some_papers(seed):
    """A (claim, paper) of each of the house's papers, taken by chance."""
    chance = random.Random(seed)
    many, shelf, shade = some_question(seed)
    measures = some_measures(shelf, chance)
    matched = some_match(seed)[:4]
    vat = some_vat(many, chance)
    mended = some_mended(seed)[:4]
    return [
        paper_near(many, shelf, shade, measures),
        paper_near(*matched),
        paper_cheap(many, shelf, shade, measures, some_prices(shelf, chance)),
        paper_cheap(*matched, some_prices(matched[1], chance)),
        paper_mend(many, vat, shelf, shade, 99999),
        paper_mend(*mended, 99999),
        paper_mend(*mended, mended[1][0]),
        paper_served(many, *some_leavings_and_cloths(many, chance, 8)),
    ]
