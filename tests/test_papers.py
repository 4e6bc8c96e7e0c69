"""The house's papers: points 2, 3 and 25, the interface's row `papers`."""

import copy
import itertools
import random
import unittest
from fractions import Fraction

from tests.claims import holds_as_told, some_papers
from tests.mixings import (
    BAD_MEASURES, BAD_SHADES, GOOD, SHADES, bad_shelves, some_leavings_and_cloths, some_question,
)
from tests.model import MANYS
from tests.things import GREAT, NO_MANYS, put
from tests.weighed import (
    BAD_PRICES, GOOD_VATS, bad_vats, some_match, some_measures, some_mended, some_prices, some_vat,
)
from vatmatch.cheapest import cheapest
from vatmatch.checker import holds
from vatmatch.errors import DyeError, NoBrim, NoCloths, NoMany, NoMeasures, NoPrices, NoShade, NoShelf, NoVat, TooLittle
from vatmatch.leavings import serves
from vatmatch.mending import mend
from vatmatch.nearest import nearest
from vatmatch.papers import paper_cheap, paper_mend, paper_near, paper_served

EVEN = ((50, 50), (50, 50))
SHELF = (("blue", 9, (0, 1)), ("red", 3, (1, 0)))
CLOTHS = (("linen", 5, EVEN), ("silk", 5, ((0, 0), (100, 100))))
# Each question with what asks it, all arguments right.
QUESTIONS = (
    (nearest, paper_near, (2, GOOD[2], SHADES[2], 12)),
    (cheapest, paper_cheap, (2, GOOD[2], SHADES[2], 12, (3, 5))),
    (mend, paper_mend, (2, GOOD_VATS[2], GOOD[2], SHADES[2], 99)),
    (serves, paper_served, (2, GOOD[2], CLOTHS)),
)


class PaperCase(unittest.TestCase):
    def check(self, answer, claim):
        """The checker takes it, and the claim is this one; tells the paper."""
        self.assertIs(type(answer), tuple)
        self.assertEqual(len(answer), 2)
        self.assertIs(holds(*answer), True, answer)
        self.assertTrue(holds_as_told(*answer), answer)
        self.assertEqual(answer[0], claim)
        self.assertIs(type(answer[0]), tuple)
        return answer[1]

    def check_near(self, *question):
        distance, amounts, weights = nearest(*question)
        self.check(paper_near(*question), ("near", *question, distance))
        return distance

    def check_cheap(self, *question):
        word, worth, amounts, weights = cheapest(*question)
        claim = ("cheap", *question, worth) if word == "costs" else ("near", *question[:-1], worth)
        self.check(paper_cheap(*question), claim)
        return word

    def check_mend(self, *question):
        answer = mend(*question)
        many, vat, shelf, shade, brim = question
        if answer[0] == "adds":
            claim = ("more", many, vat, shelf, shade, answer[1])
        elif answer[0] == "brim":
            claim = ("above", many, vat, shelf, shade, brim - vat[0])
        else:
            claim = ("above", many, vat, shelf, shade, sum(row[1] for row in shelf))
        self.check(paper_mend(*question), claim)
        return answer[0]

    def check_served(self, *question):
        pairs, cover = serves(*question)
        self.check(paper_served(*question), ("served", *question, len(pairs)))
        return len(pairs)


class ByHand(PaperCase):
    def test_near(self):
        paper = self.check(paper_near(2, SHELF, EVEN, 8), ("near", 2, SHELF, EVEN, 8, (100, 1)))
        self.assertEqual(paper[0], ((5, 1), (3, 1)))
        paper = self.check(paper_near(2, SHELF, EVEN, 6), ("near", 2, SHELF, EVEN, 6, (0, 1)))
        self.assertEqual(paper, (((3, 1), (3, 1)), ((0, 1), (0, 1))))

    def test_cheap(self):
        claim = ("cheap", 2, SHELF, EVEN, 6, (2, 5), (21, 1))
        paper = self.check(paper_cheap(2, SHELF, EVEN, 6, (2, 5)), claim)
        self.assertEqual(paper[0], ((3, 1), (3, 1)))

    def test_cheap_without_a_match_is_near(self):
        for prices in ((2, 5), (0, 0), (999, 0)):
            paper = self.check(paper_cheap(2, SHELF, EVEN, 8, prices), ("near", 2, SHELF, EVEN, 8, (100, 1)))
            self.assertEqual(paper[0], ((5, 1), (3, 1)))

    def test_mend(self):
        vat = (4, (1, 0))
        for brim in (8, 9, 99999):
            paper = self.check(paper_mend(2, vat, SHELF, EVEN, brim), ("more", 2, vat, SHELF, EVEN, (4, 1)))
            self.assertEqual(paper[0], ((4, 1), (0, 1)))
        self.check(paper_mend(2, (4, (1, 1)), SHELF, EVEN, 4), ("more", 2, (4, (1, 1)), SHELF, EVEN, (0, 1)))

    def test_mend_above_the_brim(self):
        vat = (4, (1, 0))
        for brim in (4, 5, 7):
            self.check(paper_mend(2, vat, SHELF, EVEN, brim), ("above", 2, vat, SHELF, EVEN, brim - 4))

    def test_mend_above_all_that_is_left(self):
        vat = (4, (0, 1))
        for brim in (4, 16, 99999):
            self.check(paper_mend(2, vat, SHELF, EVEN, brim), ("above", 2, vat, SHELF, EVEN, 12))

    def test_served(self):
        paper = self.check(paper_served(2, SHELF, CLOTHS), ("served", 2, SHELF, CLOTHS, 1))
        self.assertEqual(paper[0], (("silk", "blue"),))
        for many in MANYS:
            self.assertEqual(paper_served(many, (), ()), (("served", many, (), (), 0), ((), ((), ()))))


class ByChance(PaperCase):
    def test_near_and_cheap(self):
        seen = set()
        for seed in range(300):
            many, shelf, shade = some_question(seed, great=seed % 25 == 0)
            chance = random.Random(seed)
            measures = some_measures(shelf, chance)
            if seed % 3 == 0:
                many, shelf, shade, measures, amounts = some_match(seed)
            distance = self.check_near(many, shelf, shade, measures)
            word = self.check_cheap(many, shelf, shade, measures, some_prices(shelf, chance))
            self.assertEqual(word, "costs" if distance == (0, 1) else "none")
            seen.add((many, word))
        self.assertEqual(seen, set(itertools.product(MANYS, ("costs", "none"))))

    def test_mend(self):
        seen = set()
        for seed in range(400):
            many, shelf, shade = some_question(seed, great=seed % 25 == 0)
            chance = random.Random(seed)
            vat = some_vat(many, chance)
            if seed % 2:
                many, vat, shelf, shade, amounts = some_mended(seed)
            word = self.check_mend(many, vat, shelf, shade, chance.choice((vat[0], min(99999, vat[0] + 3), 99999)))
            seen.add((many, word))
        self.assertEqual(seen, set(itertools.product(MANYS, ("adds", "brim", "never"))))

    def test_served(self):
        counts = set()
        for seed in range(200):
            chance = random.Random(seed)
            many = chance.choice(MANYS)
            counts.add(self.check_served(many, *some_leavings_and_cloths(many, chance, 8)))
        self.assertTrue({0, 1, 2, 3, 4} <= counts, counts)

    def test_a_better_claim_is_taken_with_no_paper_of_the_house(self):
        for seed in range(60):
            papers = [paper for claim, paper in some_papers(seed)]
            for claim, paper in some_papers(seed):
                if claim[0] in ("near", "cheap", "more"):
                    top, bottom = claim[-1]
                    better = (*claim[:-1], (top - 1, bottom)) if Fraction(top - 1, bottom).denominator == bottom else None
                elif claim[0] == "above":
                    better = None
                else:
                    better = (*claim[:-1], claim[-1] + 1)
                for other in papers if better else ():
                    self.assertIs(holds(better, other), False)

    def test_great_parts(self):
        shelf = (("a", 7, (GREAT, GREAT + 2, 1)), ("b", 8, (1, GREAT, GREAT - 1)), ("c", 9, (GREAT, 0, 5)))
        for shade in (((33, 34), (33, 34), (33, 34)), ((90, 100), (0, 10), (0, 10)), ((0, 100),) * 3):
            self.check_near(3, shelf, shade, 12)
            self.check_cheap(3, shelf, shade, 12, (3, 1, 2))
            self.check_mend(3, (3, (GREAT, 1, 1)), shelf, shade, 99999)
            self.check_served(3, shelf, (("silk", 5, shade),))


def refusal(asked, *given):
    """The class by which a question is refused."""
    try:
        asked(*given)
    except DyeError as error:
        return type(error)
    return None


class Refused(unittest.TestCase):
    WRONG = {
        NoMany: NO_MANYS, NoShelf: bad_shelves(2), NoShade: BAD_SHADES, NoMeasures: BAD_MEASURES, NoPrices: BAD_PRICES,
        NoVat: bad_vats(2), NoBrim: [4, 100000, True, None, "9"], NoCloths: [None, [], (1,), CLOTHS[::-1], [*CLOTHS]],
    }
    ORDERS = (
        (NoMany, NoShelf, NoShade, NoMeasures), (NoMany, NoShelf, NoShade, NoMeasures, NoPrices),
        (NoMany, NoVat, NoShelf, NoShade, NoBrim), (NoMany, NoShelf, NoCloths),
    )

    def test_each_in_its_order(self):
        for (asked, paper, good), order in zip(QUESTIONS, self.ORDERS):
            self.assertEqual(len(good), len(order))
            for at, error in enumerate(order):
                # No shelf is something that is leavings.
                wrong = [thing for thing in self.WRONG[error] if refusal(asked, *put(good, at, thing)) is not None]
                self.assertGreater(len(wrong), 3)
                for thing in wrong:
                    for behind in (good[at + 1:], (None,) * (len(good) - at - 1)):
                        given = (*good[:at], thing, *behind)
                        self.assertRaises(error, paper, *given)
                        self.assertIs(refusal(asked, *given), error)

    def test_too_little_behind_all_others(self):
        self.assertRaises(TooLittle, paper_near, 2, GOOD[2], SHADES[2], 13)
        self.assertRaises(TooLittle, paper_cheap, 2, GOOD[2], SHADES[2], 13, (3, 5))
        self.assertRaises(NoPrices, paper_cheap, 2, GOOD[2], SHADES[2], 13, (3, 1000))
        self.assertRaises(NoShade, paper_near, 2, GOOD[2], None, 13)


class Unchanged(unittest.TestCase):
    def test_nothing_handed_in_is_changed(self):
        inner = [["a", 1, [1, 1]], {"a": [1]}]
        ahead = copy.deepcopy(inner)
        for asked, paper, good in QUESTIONS:
            for at in range(len(good)):
                for thing in (inner, tuple(inner)):
                    self.assertRaises(DyeError, paper, *put(good, at, thing))
        self.assertEqual(inner, ahead)

    def test_asked_twice_the_same_is_told(self):
        for asked, paper, good in QUESTIONS:
            self.assertEqual(paper(*good), paper(*good))


if __name__ == "__main__":
    unittest.main()
