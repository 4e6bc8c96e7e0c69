"""Mending: points 2, 3, 12, 21 and 22, the interface's row `mending`."""

import copy
import itertools
import random
import unittest
from fractions import Fraction

from tests.mixings import BAD_SHADES, GOOD, SHADES, bad_shelves, some_question
from tests.model import MANYS, between, told
from tests.things import GREAT, NO_MANYS, deep, fraction_as_told, put, things
from tests.weighed import (
    BAD_WEIGHTS, GOOD_VATS, NOUGHTS, bad_vats, far_mended, great_weights, more_as_told, some_mended, some_vat,
    some_weights, vat_as_told, weights_as_told,
)
from vatmatch.errors import NoBrim, NoMany, NoShade, NoShelf, NoVat, NoWeights
from vatmatch.mending import mend, more
from vatmatch.tracing import mix_of, shelf_at

EVEN = ((50, 50), (50, 50))
ANY = ((0, 100), (0, 100))
WIDE = ((0, 60), (40, 100))
SHELF = (("blue", 9, (0, 1)), ("red", 3, (1, 0)))
# Of a vat of 5 measures.
BAD_BRIMS = [4, 0, -1, 100000, GREAT, True, False, None, "9", b"9", (9,), [9], {}, (9, 1), len, deep(9, 12)]


class MoreByHand(unittest.TestCase):
    def more(self, shade, *weights, vat=(4, (1, 0)), shelf=SHELF):
        return more(2, vat, shelf, shade, weights)

    def test_weights_of_nought(self):
        for many in MANYS:
            self.assertEqual(more(many, GOOD_VATS[many], GOOD[many], SHADES[many], NOUGHTS[many]), (0, 1))

    def test_gains_of_just_one_of_less_and_of_more(self):
        # There are four measures of stuff 0: of stuff 1 two are wanted, and none are there, so NEED is 200 weights.
        # A measure of blue gains fifty weights.
        self.assertEqual(self.more(EVEN, (0, 1), (1, 50)), (4, 1))
        self.assertEqual(self.more(EVEN, (0, 1), (1, 100)), (2, 1))
        self.assertEqual(self.more(EVEN, (0, 1), (1, 25)), (8 + 9 * (1 - 2), 1))
        self.assertEqual(self.more(EVEN, (0, 1), (1, 10)), (20 + 9 * (1 - 5), 1))
        self.assertEqual(self.more(EVEN, (0, 1), (51, 2500)), told(Fraction(408, 100) - Fraction(9, 50)))

    def test_weights_below_nought(self):
        # By half of stuff 0 at most, two are too many: NEED is 200 sizes. Blue gains fifty sizes.
        self.assertEqual(self.more(EVEN, (-1, 50), (0, 1)), (4, 1))
        self.assertEqual(self.more(EVEN, (-1, 25), (0, 1)), (-1, 1))
        # What the weight below 0 is taken by is HIGH: NEED is -(240 - 400)/60, blue gains 60/60.
        self.assertEqual(self.more(WIDE, (-1, 60), (0, 1)), told(Fraction(160, 60)))
        # By a weight above 0 it is LOW, 0: NEED is -400/60, red gains 100/60.
        self.assertEqual(self.more(WIDE, (1, 60), (0, 1)), told(Fraction(-400, 60) + 3 * (1 - Fraction(100, 60))))

    def test_several_that_gain_more_than_one(self):
        # By stuff 1 NEED is 160/5, blue gains 60/5 and red -40/5; by stuff 0 NEED is -400, blue gains 0 and red 100.
        self.assertEqual(self.more(WIDE, (0, 1), (1, 5)), (32 + 9 * (1 - 12), 1))
        self.assertEqual(self.more(WIDE, (1, 1), (1, 5)), (32 - 400 + 9 * (1 - 12) + 3 * (1 - 100 + 8), 1))

    def test_measures_at_their_ends(self):
        for measures in (1, 2, 99999):
            vat = (measures, (1, 0))
            self.assertEqual(self.more(EVEN, (0, 1), (1, 50), vat=vat), (measures, 1))
            self.assertEqual(self.more(EVEN, (0, 1), (1, 25), vat=vat), (2 * measures - 9, 1))
            self.assertEqual(self.more(EVEN, (1, 50), (0, 1), vat=vat), (-measures, 1))

    def test_what_the_vat_has_by_its_parts(self):
        # Of five measures 15/4 are stuff 1, at most half is wanted: NEED is (-250 + 375)/50.
        self.assertEqual(self.more(EVEN, (0, 1), (-1, 50), vat=(5, (1, 3))), told(Fraction(125, 50)))
        self.assertEqual(self.more(EVEN, (0, 1), (-1, 50), vat=(5, (2, 6))), told(Fraction(125, 50)))


class MoreByChance(unittest.TestCase):
    def test_as_told(self):
        for seed in range(400):
            many, shelf, shade = some_question(seed, great=seed % 20 == 0)
            chance = random.Random(seed)
            vat = some_vat(many, chance)
            for weights in (some_weights(many, chance), great_weights(many, chance)):
                answer = more(many, vat, shelf, shade, weights)
                self.assertEqual(answer, more_as_told(vat, shelf, shade, weights))
                self.assertTrue(fraction_as_told(answer))

    def test_no_mending_adds_less(self):
        just = 0
        for seed in range(400):
            many, vat, shelf, shade, amounts = some_mended(seed)
            chance = random.Random(seed)
            self.assertEqual(far_mended(many, vat, shelf, shade, amounts), (0, 1))
            for turn in range(6):
                weights = some_weights(many, chance)
                size = chance.choice((1, 20, 100, 1000))
                weights = tuple(told(Fraction(*weight) / size) for weight in weights)
                least = Fraction(*more(many, vat, shelf, shade, weights))
                self.assertLessEqual(least, sum(amounts))
                just += least == sum(amounts)
        self.assertGreater(just, 0)


class MendCase(unittest.TestCase):
    def check(self, many, vat, shelf, shade, brim):
        """All that point 22 says of an answer; tells its word and its ADDED, None without."""
        answer = mend(many, vat, shelf, shade, brim)
        self.assertIs(type(answer), tuple)
        weights = answer[-1]
        self.assertTrue(weights_as_told(many, weights), answer)
        least = more(many, vat, shelf, shade, weights)
        self.assertEqual(least, more_as_told(vat, shelf, shade, weights))
        if answer[0] == "never":
            self.assertEqual(len(answer), 2)
            self.assertGreater(Fraction(*least), sum(row[1] for row in shelf))
            return ("never", None)
        word, added, amounts, weights = answer
        self.assertIs(type(amounts), tuple)
        self.assertTrue(all(map(fraction_as_told, (added, *amounts))), answer)
        reckoned = [Fraction(*amount) for amount in amounts]
        self.assertEqual(len(amounts), len(shelf))
        self.assertTrue(all(0 <= amount <= row[1] for amount, row in zip(reckoned, shelf)))
        self.assertEqual(far_mended(many, vat, shelf, shade, reckoned), (0, 1))
        self.assertEqual(told(sum(reckoned)), added)
        self.assertEqual(least, added)
        self.assertEqual(word, "brim" if vat[0] + Fraction(*added) > brim else "adds")
        return (word, added)


class ByHand(MendCase):
    def told_is(self, word, added, *question):
        self.assertEqual(self.check(*question), (word, None if added is None else told(Fraction(added))))

    def test_a_vat_that_needs_nothing(self):
        for brim in (10, 11, 99999):
            self.told_is("adds", 0, 2, (10, (1, 1)), SHELF, EVEN, brim)
            self.assertEqual(mend(2, (10, (1, 1)), SHELF, EVEN, brim)[2], ((0, 1), (0, 1)))
        self.told_is("adds", 0, 2, (99999, (0, 1)), SHELF, ANY, 99999)
        self.told_is("adds", 0, 2, (10, (3, 2)), SHELF, WIDE, 10)

    def test_a_vat_that_one_thing_mends(self):
        self.told_is("adds", 4, 2, (4, (1, 0)), SHELF, EVEN, 99)
        self.assertEqual(mend(2, (4, (1, 0)), SHELF, EVEN, 99)[2], ((4, 1), (0, 1)))
        self.told_is("adds", 2, 2, (2, (0, 1)), SHELF, EVEN, 99)
        # Of stuff 0 at most sixty hundredths: ten measures of it need 20/3 of another.
        self.told_is("adds", Fraction(20, 3), 2, (10, (1, 0)), SHELF, WIDE, 99)
        self.assertEqual(mend(2, (10, (1, 0)), SHELF, WIDE, 99)[2], ((20, 3), (0, 1)))

    def test_what_mends_by_less_is_taken(self):
        shelf = (("pale", 99, (1, 3)), ("strong", 99, (0, 1)))
        self.told_is("adds", 4, 2, (4, (1, 0)), shelf, EVEN, 99)
        self.assertEqual(mend(2, (4, (1, 0)), shelf, EVEN, 99)[2], ((0, 1), (4, 1)))
        # Where the strong one runs out, two of pale are for one of it.
        shelf = (("pale", 99, (1, 3)), ("strong", 1, (0, 1)))
        self.told_is("adds", 7, 2, (4, (1, 0)), shelf, EVEN, 99)
        self.assertEqual(mend(2, (4, (1, 0)), shelf, EVEN, 99)[2], ((6, 1), (1, 1)))

    def test_all_that_is_left_of_something(self):
        self.told_is("adds", 3, 2, (3, (0, 1)), SHELF, EVEN, 99)
        self.assertEqual(mend(2, (3, (0, 1)), SHELF, EVEN, 99)[2], ((0, 1), (3, 1)))
        self.told_is("adds", 9, 2, (9, (1, 0)), SHELF, EVEN, 99)
        # All that is left of both.
        self.told_is("adds", 12, 2, (6, (1, 0)), (("a", 6, (1, 2)), ("b", 6, (1, 5))), ((50, 50), (50, 50)), 99)

    def test_a_vat_that_nothing_mends(self):
        self.told_is("never", None, 2, (4, (0, 1)), SHELF, EVEN, 99)
        self.told_is("never", None, 2, (10, (1, 0)), SHELF, EVEN, 10)
        self.told_is("never", None, 2, (99999, (1, 0)), SHELF, EVEN, 99999)
        self.told_is("never", None, 2, (4, (1, 0)), (("a", 9999, (2, 1)),), EVEN, 99)
        self.told_is("never", None, 2, (1, (0, 1)), (("a", 9999, (49, 51)),), EVEN, 99999)
        # What the vat has of stuff 2 can't be taken out.
        self.told_is("never", None, 3, (1, (0, 0, 1)), GOOD[3], ((0, 100), (0, 100), (0, 0)), 99999)

    def test_just_as_much_as_the_brim_holds(self):
        for brim, word in ((4, "brim"), (7, "brim"), (8, "adds"), (9, "adds"), (99999, "adds")):
            self.told_is(word, 4, 2, (4, (1, 0)), SHELF, EVEN, brim)
        # Sixteen measures and two thirds of one.
        for brim, word in ((10, "brim"), (16, "brim"), (17, "adds")):
            self.told_is(word, Fraction(20, 3), 2, (10, (1, 0)), SHELF, WIDE, brim)
        self.told_is("brim", 1, 2, (99999, (49999, 50000)), SHELF, EVEN, 99999)
        self.told_is("adds", 1, 2, (99997, (49998, 49999)), SHELF, EVEN, 99998)

    def test_three_and_four_stuffs(self):
        shelf = (("a", 9, (1, 0, 0)), ("b", 9, (0, 1, 0)), ("c", 9, (0, 0, 1)))
        thirds = ((33, 34), (33, 34), (33, 34))
        # Three of stuff 0 are 34 hundredths where there are 300/34 in all.
        self.told_is("adds", Fraction(300, 34) - 3, 3, (3, (1, 0, 0)), shelf, thirds, 99)
        self.told_is("adds", 1, 3, (3, (1, 1, 1)), shelf, ((50, 50), (25, 25), (25, 25)), 99)
        rows = tuple((name, 5, tuple(int(at == other) for other in range(4))) for at, name in enumerate("abcd"))
        self.told_is("adds", 15, 4, (5, (1, 0, 0, 0)), rows, ((25, 25),) * 4, 20)
        self.told_is("brim", 15, 4, (5, (1, 0, 0, 0)), rows, ((25, 25),) * 4, 19)
        self.told_is("never", None, 4, (6, (1, 0, 0, 0)), rows, ((25, 25),) * 4, 19)

    def test_what_was_told_of_a_book(self):
        book = (
            (1, ("comes", "red", "madder", (1, 0), 12)), (2, ("comes", "blue", "woad", (0, 1), 12)), (3, ("vat", "tub", 20)),
            (4, ("weigh", "red", "tub", 6)), (5, ("weigh", "blue", "tub", 2)),
        )
        vat, shelf = mix_of(2, book, 5, "tub"), shelf_at(2, book, 5)
        self.told_is("adds", 4, 2, vat, shelf, EVEN, 20)
        self.assertEqual(mend(2, vat, shelf, EVEN, 20)[2], ((4, 1), (0, 1)))


def whole_mendings(many, vat, shelf, shade):
    """All mendings in whole measures."""
    for amounts in itertools.product(*[range(row[1] + 1) for row in shelf]):
        if far_mended(many, vat, shelf, shade, amounts) == (0, 1):
            yield amounts


class ByChance(MendCase):
    def test_all_that_is_said_of_it(self):
        seen = set()
        for seed in range(1200):
            many, shelf, shade = some_question(seed, great=seed % 25 == 0)
            chance = random.Random(seed)
            vat = some_vat(many, chance)
            if seed % 2:
                many, vat, shelf, shade, amounts = some_mended(seed)
            brim = chance.choice((vat[0], min(99999, vat[0] + 3), 99999))
            word, added = self.check(many, vat, shelf, shade, brim)
            seen.add((many, len(shelf), word))
        self.assertEqual(seen, set(itertools.product(MANYS, (1, 2, 3, 4), ("adds", "brim", "never"))))

    def test_no_mending_adds_less(self):
        less = 0
        for seed in range(500):
            many, vat, shelf, shade, amounts = some_mended(seed)
            word, added = self.check(many, vat, shelf, shade, 99999)
            self.assertNotEqual(word, "never")
            self.assertLessEqual(Fraction(*added), sum(amounts))
            less += Fraction(*added) < sum(amounts)
        self.assertGreater(less, 50)

    def test_no_more_than_what_a_plain_search_finds(self):
        just = never = 0
        for seed in range(150):
            chance = random.Random(seed)
            many = chance.choice(MANYS)
            shelf = tuple(
                (name, chance.randint(1, 4), tuple(chance.choice((0, 1, 1, 2, 3)) + (stuff == at) for stuff in range(many)))
                for at, name in enumerate("abcd"[:chance.randint(1, 3)])
            )
            vat = (chance.randint(1, 4), tuple(chance.randint(0, 2) + (stuff == 1) for stuff in range(many)))
            shade = tuple((chance.choice((0, 0, 10, 20, 25)), chance.choice((40, 60, 80, 100))) for stuff in range(many))
            if sum(high for low, high in shade) < 100:
                continue
            sums = [sum(amounts) for amounts in whole_mendings(many, vat, shelf, shade)]
            word, added = self.check(many, vat, shelf, shade, 99999)
            never += word == "never"
            if sums:
                self.assertEqual(word, "adds")
                self.assertLessEqual(Fraction(*added), min(sums))
                just += Fraction(*added) == min(sums)
        self.assertGreater(just, 10)
        self.assertGreater(never, 5)

    def test_great_parts(self):
        shelf = (("a", 7, (GREAT, GREAT + 2, 1)), ("b", 8, (1, GREAT, GREAT - 1)), ("c", 9, (GREAT, 0, 5)))
        for shade in (((33, 34), (33, 34), (33, 34)), ((90, 100), (0, 10), (0, 10)), ((0, 100),) * 3):
            for vat in ((3, (GREAT, 1, 1)), (99999, (1, GREAT + 1, GREAT)), (1, (1, 1, 1))):
                self.check(3, vat, shelf, shade, 99999)


class Refused(unittest.TestCase):
    """Both questions, each also where what stands behind is wrong, too."""

    def each(self, error, *given):
        """Refused by both; the last two given are WEIGHTS and BRIM."""
        *question, weights, brim = given
        self.assertRaises(error, more, *question, weights)
        self.assertRaises(error, mend, *question, brim)

    def test_no_many(self):
        for many in NO_MANYS:
            for given in ((GOOD_VATS[2], GOOD[2], SHADES[2], NOUGHTS[2], 99), (None, None, None, None, None)):
                self.each(NoMany, many, *given)

    def test_no_vat(self):
        for many in MANYS:
            for vat in bad_vats(many):
                for given in ((GOOD[many], SHADES[many], NOUGHTS[many], 99999), (None, None, None, None)):
                    self.each(NoVat, many, vat, *given)

    def test_no_vat_of_any_kind(self):
        for thing in things():
            for vat in (thing, (thing, (1, 3)), (5, thing), (5, (thing, 3)), (5, (1, thing))):
                if vat_as_told(2, vat):
                    more(2, vat, GOOD[2], SHADES[2], NOUGHTS[2])
                else:
                    self.each(NoVat, 2, vat, GOOD[2], SHADES[2], NOUGHTS[2], 99999)

    def test_measures_of_a_vat_at_their_ends(self):
        for measures in (1, 99999):
            more(2, (measures, (1, 3)), GOOD[2], SHADES[2], NOUGHTS[2])
            mend(2, (measures, (1, 3)), GOOD[2], SHADES[2], 99999)

    def test_no_shelf(self):
        for many in MANYS:
            for shelf in bad_shelves(many):
                for given in ((SHADES[many], NOUGHTS[many], 99999), (None, None, None)):
                    self.each(NoShelf, many, GOOD_VATS[many], shelf, *given)

    def test_no_shade(self):
        for shade in BAD_SHADES:
            for given in ((NOUGHTS[2], 99999), (None, None)):
                self.each(NoShade, 2, GOOD_VATS[2], GOOD[2], shade, *given)

    def test_no_weights(self):
        for weights in BAD_WEIGHTS:
            self.assertRaises(NoWeights, more, 2, GOOD_VATS[2], GOOD[2], SHADES[2], weights)
        for many in MANYS:
            for thing in things():
                if not weights_as_told(many, thing):
                    self.assertRaises(NoWeights, more, many, GOOD_VATS[many], GOOD[many], SHADES[many], thing)

    def test_no_brim(self):
        for brim in [*BAD_BRIMS, *things()]:
            if not between(brim, 5, 99999):
                self.assertRaises(NoBrim, mend, 2, (5, (1, 3)), GOOD[2], SHADES[2], brim)
        self.assertRaises(NoBrim, mend, 2, (99999, (1, 3)), GOOD[2], SHADES[2], 99998)

    def test_brims_at_their_ends(self):
        for brim in (5, 6, 99998, 99999):
            mend(2, (5, (1, 3)), GOOD[2], SHADES[2], brim)
        mend(2, (99999, (1, 3)), GOOD[2], SHADES[2], 99999)


class Unchanged(unittest.TestCase):
    def test_nothing_handed_in_is_changed(self):
        inner = [[1, 1], {"a": [1]}]
        ahead = copy.deepcopy(inner)
        good = (2, GOOD_VATS[2], GOOD[2], SHADES[2])
        for thing in (inner, tuple(inner)):
            for at, error in enumerate((NoMany, NoVat, NoShelf, NoShade)):
                self.assertRaises(error, more, *put(good, at, thing), NOUGHTS[2])
                self.assertRaises(error, mend, *put(good, at, thing), 99)
            self.assertRaises(NoWeights, more, *good, thing)
            self.assertRaises(NoBrim, mend, *good, thing)
        self.assertEqual(inner, ahead)

    def test_asked_twice_the_same_is_told(self):
        for many in MANYS:
            question = (many, GOOD_VATS[many], GOOD[many], SHADES[many])
            self.assertEqual(mend(*question, 99999), mend(*question, 99999))
            self.assertEqual(more(*question, NOUGHTS[many]), more(*question, NOUGHTS[many]))


if __name__ == "__main__":
    unittest.main()
