"""The cheapest: points 2, 3, 12, 19 and 20, the interface's row `cheapest`."""

import copy
import itertools
import random
import unittest
from fractions import Fraction

from tests.mixings import BAD_MEASURES, BAD_SHADES, GOOD, SHADES, bad_shelves, far_of_mixing, some_question
from tests.model import MANYS, told
from tests.things import GREAT, NO_MANYS, fraction_as_told, put, things
from tests.weighed import (
    BAD_PRICES, BAD_WEIGHTS, NOUGHTS, cost_of, floor_as_told, great_weights, prices_as_told, some_match, some_measures,
    some_prices, some_weights,
)
from vatmatch.cheapest import cheapest, floor_of
from vatmatch.errors import NoMany, NoMeasures, NoPrices, NoShade, NoShelf, NoWeights, TooLittle
from vatmatch.nearest import nearest
from vatmatch.weighings import bound

EVEN = ((50, 50), (50, 50))
ANY = ((0, 100), (0, 100))
PRICES = {2: (3, 5), 3: (0, 999, 4), 4: (1, 1, 2, 0)}


class FloorByHand(unittest.TestCase):
    shelf = (("blue", 5, (0, 1)), ("red", 7, (3, 1)))
    shade = ((30, 60), (40, 70))

    def floor(self, measures, prices, *weights):
        return floor_of(2, self.shelf, self.shade, measures, prices, weights)

    def test_weights_of_nought(self):
        # What a mixing costs at least: five of blue, and the rest of red.
        self.assertEqual(self.floor(6, (2, 5), (0, 1), (0, 1)), (15, 1))
        self.assertEqual(self.floor(12, (2, 5), (0, 1), (0, 1)), (45, 1))
        # Where red costs less, six of red.
        self.assertEqual(self.floor(6, (5, 2), (0, 1), (0, 1)), (12, 1))
        self.assertEqual(self.floor(6, (0, 999), (0, 1), (0, 1)), (999, 1))
        self.assertEqual(self.floor(12, (0, 0), (0, 1), (0, 1)), (0, 1))

    def test_a_weight_above_nought(self):
        # LOWEST is 6 times 30. Blue costs 2, red 5 - 3/4.
        self.assertEqual(self.floor(6, (2, 5), (1, 1), (0, 1)), told(Fraction(180, 100) + 10 + Fraction(17, 4)))
        # LOWEST is 6 times 240, blue costs 2 and red 5 - 6, so six of red go in.
        self.assertEqual(self.floor(6, (2, 5), (8, 1), (0, 1)), told(Fraction(1440, 100) - 6))

    def test_a_weight_below_nought(self):
        # LOWEST is -6 times 60. Blue costs 2, red 5 + 3/4.
        self.assertEqual(self.floor(6, (2, 5), (-1, 1), (0, 1)), told(Fraction(-360, 100) + 10 + Fraction(23, 4)))
        # LOWEST is -6 times 70. Blue costs 2 + 1, red 5 + 1/4.
        self.assertEqual(self.floor(6, (2, 5), (0, 1), (-1, 1)), told(Fraction(-420, 100) + 15 + Fraction(21, 4)))

    def test_weights_on_both_sides_and_fractions(self):
        # LOWEST is 6 times (15 - 70/3): -50. Blue costs 2 + 1/3, red 5 - 7/24.
        self.assertEqual(self.floor(6, (2, 5), (1, 2), (-1, 3)), told(Fraction(-1, 2) + Fraction(35, 3) + Fraction(113, 24)))
        # All that is left: five of blue, seven of red.
        self.assertEqual(self.floor(12, (2, 5), (1, 2), (-1, 3)), told(-1 + Fraction(35, 3) + Fraction(7 * 113, 24)))

    def test_what_costs_least_goes_in_first(self):
        shelf = (("a", 2, (1, 0)), ("b", 3, (1, 1)), ("c", 4, (0, 1)))
        for measures, least in ((1, 1), (4, 4), (5, 7), (7, 13), (8, 18), (9, 23)):
            self.assertEqual(floor_of(2, shelf, ANY, measures, (5, 3, 1), NOUGHTS[2]), (least, 1))
        # By a weight of 6 they cost -1, 0 and 1.
        for measures, least in ((1, -1), (2, -2), (5, -2), (6, -1), (9, 2)):
            self.assertEqual(floor_of(2, shelf, ANY, measures, (5, 3, 1), ((6, 1), (0, 1))), (least, 1))


class FloorByChance(unittest.TestCase):
    def test_as_told(self):
        for seed in range(300):
            many, shelf, shade = some_question(seed, great=seed % 20 == 0)
            chance = random.Random(seed)
            measures, prices = some_measures(shelf, chance), some_prices(shelf, chance)
            for weights in (some_weights(many, chance), great_weights(many, chance)):
                answer = floor_of(many, shelf, shade, measures, prices, weights)
                self.assertEqual(answer, floor_as_told(shelf, shade, measures, prices, weights))
                self.assertTrue(fraction_as_told(answer))

    def test_no_match_costs_less(self):
        just = 0
        for seed in range(300):
            many, shelf, shade, measures, amounts = some_match(seed)
            chance = random.Random(seed)
            prices = some_prices(shelf, chance)
            self.assertEqual(far_of_mixing(many, shelf, shade, amounts), (0, 1))
            for weights in (NOUGHTS[many], *[some_weights(many, chance) for turn in range(4)], great_weights(many, chance)):
                floor = Fraction(*floor_of(many, shelf, shade, measures, prices, weights))
                self.assertLessEqual(floor, cost_of(prices, amounts))
                just += floor == cost_of(prices, amounts)
        self.assertGreater(just, 0)

    def test_great_weights(self):
        for weights in (((GREAT, 1), (-1, GREAT)), ((GREAT, GREAT + 1), (1 - GREAT, GREAT))):
            answer = floor_of(2, GOOD[2], SHADES[2], 12, (3, 5), weights)
            self.assertEqual(answer, floor_as_told(GOOD[2], SHADES[2], 12, (3, 5), weights))


class CheapestCase(unittest.TestCase):
    def check(self, many, shelf, shade, measures, prices):
        """All that point 20 says of an answer; tells its word and its COST or FAR."""
        answer = cheapest(many, shelf, shade, measures, prices)
        self.assertIs(type(answer), tuple)
        word, worth, amounts, weights = answer
        self.assertEqual([type(part) for part in answer], [str, tuple, tuple, tuple])
        self.assertTrue(all(map(fraction_as_told, (worth, *amounts, *weights))), answer)
        self.assertEqual((len(amounts), len(weights)), (len(shelf), many))
        reckoned = [Fraction(*amount) for amount in amounts]
        self.assertEqual(sum(reckoned), measures)
        self.assertTrue(all(0 <= amount <= row[1] for amount, row in zip(reckoned, shelf)))
        distance = far_of_mixing(many, shelf, shade, reckoned)
        if word == "costs":
            self.assertEqual(distance, (0, 1))
            self.assertEqual(told(cost_of(prices, reckoned)), worth)
            self.assertEqual(floor_of(many, shelf, shade, measures, prices, weights), worth)
        else:
            self.assertEqual(word, "none")
            self.assertEqual(distance, worth)
            self.assertGreater(Fraction(*worth), 0)
            self.assertEqual(nearest(many, shelf, shade, measures)[0], worth)
            self.assertEqual(sum(abs(Fraction(*weight)) for weight in weights), 1)
            self.assertEqual(bound(many, shelf, shade, measures, weights), worth)
        return word, worth


class ByHand(CheapestCase):
    def costs(self, cost, *question):
        self.assertEqual(self.check(*question), ("costs", told(Fraction(cost))))

    def none(self, distance, *question):
        self.assertEqual(self.check(*question), ("none", told(Fraction(distance))))

    def test_one_thing(self):
        shelf = (("a", 5, (1, 1)),)
        self.costs(35, 2, shelf, EVEN, 5, (7,))
        self.costs(0, 2, shelf, EVEN, 1, (0,))
        self.costs(999 * 5, 2, shelf, EVEN, 5, (999,))
        self.none(100, 2, (("a", 5, (1, 3)),), EVEN, 4, (7,))

    def test_the_dearer_one_where_the_cheaper_runs_out(self):
        shelf = (("a", 2, (1, 1)), ("b", 9, (1, 1)))
        for measures, cost in ((1, 1), (2, 2), (3, 5), (5, 11), (11, 29)):
            self.costs(cost, 2, shelf, EVEN, measures, (1, 3))
        self.assertEqual(cheapest(2, shelf, EVEN, 5, (1, 3))[2], ((2, 1), (3, 1)))

    def test_mixed_of_two_or_taken_as_it_is(self):
        shelf = (("a", 9, (1, 0)), ("b", 9, (0, 1)), ("c", 9, (1, 1)))
        self.costs(6, 2, shelf, EVEN, 4, (1, 2, 5))
        self.assertEqual(cheapest(2, shelf, EVEN, 4, (1, 2, 5))[2], ((2, 1), (2, 1), (0, 1)))
        self.costs(4, 2, shelf, EVEN, 4, (1, 2, 1))
        self.assertEqual(cheapest(2, shelf, EVEN, 4, (1, 2, 1))[2], ((0, 1), (0, 1), (4, 1)))
        # Both ways cost alike.
        self.costs(8, 2, shelf, EVEN, 4, (1, 3, 2))

    def test_as_little_of_the_dear_one_as_the_shade_allows(self):
        shelf = (("blue", 9, (0, 1)), ("red", 9, (1, 0)))
        # At least thirty hundredths of the first stuff, which red alone has.
        self.costs(7 * 1 + 3 * 10, 2, shelf, ((30, 60), (40, 70)), 10, (1, 10))
        self.costs(Fraction(21, 10) + 9, 2, shelf, ((30, 60), (40, 70)), 3, (1, 10))
        self.assertEqual(cheapest(2, shelf, ((30, 60), (40, 70)), 3, (1, 10))[2], ((21, 10), (9, 10)))
        # At most sixty hundredths of it, where blue is the dear one.
        self.costs(4 * 10 + 6, 2, shelf, ((30, 60), (40, 70)), 10, (10, 1))

    def test_prices_of_nought(self):
        shelf = (("a", 9, (1, 0)), ("b", 9, (0, 1)))
        self.costs(0, 2, shelf, EVEN, 18, (0, 0))
        self.costs(9 * 7, 2, shelf, EVEN, 18, (0, 7))
        self.costs(0, 2, shelf, ANY, 9, (999, 0))

    def test_things_that_cost_alike(self):
        shelf = (("a", 3, (1, 2)), ("b", 3, (2, 1)), ("c", 3, (1, 1)), ("d", 3, (0, 1)))
        for measures in range(1, 13):
            self.costs(4 * measures, 2, shelf, ANY, measures, (4, 4, 4, 4))
        self.costs(4 * 9, 2, shelf, EVEN, 9, (4, 4, 4, 4))

    def test_left_that_just_lasts(self):
        shelf = (("a", 3, (1, 0)), ("b", 3, (0, 1)), ("c", 4, (1, 1)))
        self.costs(3 * 5 + 3 * 7 + 4 * 11, 2, shelf, EVEN, 10, (5, 7, 11))
        self.assertEqual(cheapest(2, shelf, EVEN, 10, (5, 7, 11))[2], ((3, 1), (3, 1), (4, 1)))
        self.assertRaises(TooLittle, cheapest, 2, shelf, EVEN, 11, (5, 7, 11))
        shelf = (("a", 2, (1, 0)), ("b", 3, (0, 1)))
        self.costs(24, 2, shelf, EVEN, 4, (5, 7))
        self.none(50, 2, shelf, EVEN, 5, (5, 7))

    def test_three_and_four_stuffs(self):
        shelf = (("a", 9, (1, 0, 0)), ("b", 9, (0, 1, 0)), ("c", 9, (0, 0, 1)), ("d", 9, (1, 1, 0)))
        self.costs(2 * 4 + 2 * 6 + 6, 3, shelf, ((20, 20), (20, 20), (60, 60)), 10, (4, 6, 1, 7))
        self.costs(4 * 4 + 6, 3, shelf, ((20, 20), (20, 20), (60, 60)), 10, (4, 6, 1, 4))
        self.none(20, 3, shelf[:2], ((49, 49), (49, 49), (2, 2)), 10, (4, 6))
        shelf = tuple((name, 5, tuple(int(at == other) for other in range(4))) for at, name in enumerate("abcd"))
        self.costs(50, 4, shelf, ((25, 25),) * 4, 20, (1, 2, 3, 4))
        self.none(300, 4, shelf, ((40, 40), (20, 20), (20, 20), (20, 20)), 20, (1, 2, 3, 4))

    def test_without_a_match_it_is_the_nearest_whatever_it_costs(self):
        shelf = (("a", 9, (1, 4)), ("b", 9, (1, 3)))
        for prices in ((0, 999), (999, 0), (7, 7)):
            word, distance, amounts, weights = cheapest(2, shelf, EVEN, 4, prices)
            self.assertEqual((word, distance, amounts), ("none", (100, 1), ((0, 1), (4, 1))))


def whole_matches(many, shelf, shade, measures):
    """All matches in whole measures."""
    for amounts in itertools.product(*[range(min(row[1], measures) + 1) for row in shelf]):
        if sum(amounts) == measures and far_of_mixing(many, shelf, shade, amounts) == (0, 1):
            yield amounts


class ByChance(CheapestCase):
    def test_all_that_is_said_of_it(self):
        seen = set()
        for seed in range(900):
            chance = random.Random(seed)
            many, shelf, shade = some_question(seed, great=seed % 25 == 0)
            measures = some_measures(shelf, chance)
            if seed % 3 == 0:
                many, shelf, shade, measures, amounts = some_match(seed)
            word, worth = self.check(many, shelf, shade, measures, some_prices(shelf, chance))
            seen.add((many, len(shelf), word))
        self.assertEqual(seen, set(itertools.product(MANYS, (1, 2, 3, 4), ("costs", "none"))))

    def test_no_dearer_than_a_match(self):
        cheaper = 0
        for seed in range(400):
            many, shelf, shade, measures, amounts = some_match(seed)
            prices = some_prices(shelf, random.Random(seed))
            word, cost = self.check(many, shelf, shade, measures, prices)
            self.assertEqual(word, "costs")
            self.assertLessEqual(Fraction(*cost), cost_of(prices, amounts))
            cheaper += Fraction(*cost) < cost_of(prices, amounts)
        self.assertGreater(cheaper, 50)

    def test_no_dearer_than_what_a_plain_search_finds(self):
        just = 0
        for seed in range(120):
            chance = random.Random(seed)
            many = chance.choice(MANYS)
            shelf = tuple(
                (name, chance.randint(1, 6), tuple(chance.choice((0, 1, 1, 2, 3)) + (stuff == 0) for stuff in range(many)))
                for name in "abcd"[:chance.randint(1, 4)]
            )
            shade = tuple((chance.choice((0, 0, 10, 20)), chance.choice((60, 80, 100))) for stuff in range(many))
            measures = chance.randint(1, min(6, sum(row[1] for row in shelf)))
            prices = some_prices(shelf, chance)
            costs = [cost_of(prices, amounts) for amounts in whole_matches(many, shelf, shade, measures)]
            if costs:
                word, cost = self.check(many, shelf, shade, measures, prices)
                self.assertEqual(word, "costs")
                self.assertLessEqual(Fraction(*cost), min(costs))
                just += Fraction(*cost) == min(costs)
        self.assertGreater(just, 20)

    def test_so_many_times_the_prices_cost_so_many_times(self):
        for seed in range(100):
            many, shelf, shade, measures, amounts = some_match(seed)
            prices = tuple(random.Random(seed).randint(0, 111) for row in shelf)
            word, cost = self.check(many, shelf, shade, measures, prices)
            for times in (0, 2, 9):
                answer = self.check(many, shelf, shade, measures, tuple(times * price for price in prices))
                self.assertEqual(answer, ("costs", told(times * Fraction(*cost))))

    def test_each_measure_dearer_by_one(self):
        for seed in range(100):
            many, shelf, shade, measures, amounts = some_match(seed)
            prices = tuple(random.Random(seed).randint(0, 998) for row in shelf)
            word, cost = self.check(many, shelf, shade, measures, prices)
            answer = self.check(many, shelf, shade, measures, tuple(price + 1 for price in prices))
            self.assertEqual(answer, ("costs", told(measures + Fraction(*cost))))

    def test_great_parts(self):
        shelf = (("a", 7, (GREAT, GREAT + 2, 1)), ("b", 8, (1, GREAT, GREAT - 1)), ("c", 9, (GREAT, 0, 5)))
        for shade in (((33, 34), (33, 34), (33, 34)), ((90, 100), (0, 10), (0, 10)), ((0, 100),) * 3):
            for measures in (1, 12, 24):
                self.check(3, shelf, shade, measures, (3, 1, 2))


class Refused(unittest.TestCase):
    """Both questions, each also where what stands behind is wrong, too."""

    def each(self, error, *given):
        """Refused by both; the last one given is WEIGHTS, for floor_of alone."""
        self.assertRaises(error, floor_of, *given)
        self.assertRaises(error, cheapest, *given[:-1])

    def test_no_many(self):
        for many in NO_MANYS:
            for given in ((GOOD[2], SHADES[2], 12, (3, 5), NOUGHTS[2]), (None, None, 0, None, None)):
                self.each(NoMany, many, *given)

    def test_no_shelf(self):
        for many in MANYS:
            for shelf in bad_shelves(many):
                for given in ((SHADES[many], 12, PRICES[many], NOUGHTS[many]), (None, 0, None, None)):
                    self.each(NoShelf, many, shelf, *given)

    def test_no_shade(self):
        for shade in BAD_SHADES:
            for given in ((12, (3, 5), NOUGHTS[2]), (0, None, None), (9999, (3, 5), NOUGHTS[2])):
                self.each(NoShade, 2, GOOD[2], shade, *given)

    def test_no_measures(self):
        for measures in BAD_MEASURES:
            for given in (((3, 5), NOUGHTS[2]), (None, None)):
                self.each(NoMeasures, 2, GOOD[2], SHADES[2], measures, *given)

    def test_no_prices(self):
        for prices in BAD_PRICES:
            for measures in (12, 9999):
                for weights in (NOUGHTS[2], None):
                    self.each(NoPrices, 2, GOOD[2], SHADES[2], measures, prices, weights)

    def test_prices_at_their_ends(self):
        for prices in ((0, 999), (999, 0), (0, 0), (999, 999)):
            floor_of(2, GOOD[2], SHADES[2], 12, prices, NOUGHTS[2])
            cheapest(2, GOOD[2], SHADES[2], 12, prices)

    def test_one_more_or_less_than_the_shelf_has(self):
        for many in MANYS:
            for length in range(1, len(GOOD[many]) + 1):
                for prices in ((1,) * (length - 1), (1,) * (length + 1)):
                    self.each(NoPrices, many, GOOD[many][:length], SHADES[many], 1, prices, NOUGHTS[many])

    def test_no_prices_of_any_kind(self):
        for thing in things():
            for prices in (thing, (thing, 5), (3, thing)):
                if prices_as_told(GOOD[2], prices):
                    cheapest(2, GOOD[2], SHADES[2], 12, prices)
                else:
                    self.each(NoPrices, 2, GOOD[2], SHADES[2], 12, prices, None)

    def test_no_weights(self):
        for weights in BAD_WEIGHTS:
            for measures in (12, 9999):
                self.assertRaises(NoWeights, floor_of, 2, GOOD[2], SHADES[2], measures, (3, 5), weights)
        for many in MANYS:
            for other in MANYS:
                if other != many:
                    given = (many, GOOD[many], SHADES[many], 1, PRICES[many], NOUGHTS[other])
                    self.assertRaises(NoWeights, floor_of, *given)

    def test_too_little_behind_all_others(self):
        shelf = (("a", 5, (1, 1)), ("b", 6, (1, 0)))
        floor_of(2, shelf, SHADES[2], 11, (3, 5), NOUGHTS[2])
        for measures in (12, 9999):
            self.each(TooLittle, 2, shelf, SHADES[2], measures, (3, 5), NOUGHTS[2])


class Unchanged(unittest.TestCase):
    def test_nothing_handed_in_is_changed(self):
        inner = [[1, 1], {"a": [1]}]
        ahead = copy.deepcopy(inner)
        good = (2, GOOD[2], SHADES[2], 12, (3, 5), NOUGHTS[2])
        errors = (NoMany, NoShelf, NoShade, NoMeasures, NoPrices, NoWeights)
        for thing in (inner, tuple(inner)):
            for at, error in enumerate(errors):
                self.assertRaises(error, floor_of, *put(good, at, thing))
                if at < 5:
                    self.assertRaises(error, cheapest, *put(good, at, thing)[:-1])
        self.assertEqual(inner, ahead)

    def test_asked_twice_the_same_is_told(self):
        for many in MANYS:
            question = (many, GOOD[many], SHADES[many], 12, PRICES[many])
            self.assertEqual(cheapest(*question), cheapest(*question))
            self.assertEqual(floor_of(*question, NOUGHTS[many]), floor_of(*question, NOUGHTS[many]))


if __name__ == "__main__":
    unittest.main()
