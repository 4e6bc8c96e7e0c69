"""The checker: points 2, 3 and 24, the interface's row `checker`."""

import copy
import itertools
import random
import unittest
from fractions import Fraction

from tests.claims import LENGTHS, WORDS, holds_as_told, some_papers
from tests.model import told
from tests.things import GREAT, Odd, Same, Sour, deep, things
from vatmatch.checker import holds

EVEN = ((50, 50), (50, 50))
ANY = ((0, 100), (0, 100))
SHADE = ((30, 60), (40, 70))
SHELF = (("blue", 9, (0, 1)), ("red", 3, (1, 0)))
FOUR = (("a", 9, (1, 0)), ("b", 9, (0, 1)), ("c", 9, (1, 1)), ("d", 9, (2, 1)))
VAT = (4, (1, 0))
LEAVINGS = (("b", 2, (1, 1)), ("c", 2, (1, 1)), ("x", 9, (1, 1)), ("y", 9, (1, 0)))
CLOTHS = (("linen", 5, EVEN), ("silk", 1, EVEN), ("wool", 5, EVEN))

# By eight measures, half and half, one is amiss: there are but three of red.
NEAR = (("near", 2, SHELF, EVEN, 8, (100, 1)), (((5, 1), (3, 1)), ((1, 1), (0, 1))))
MATCH = (("near", 2, SHELF, EVEN, 6, (0, 1)), (((3, 1), (3, 1)), ((0, 1), (0, 1))))
# At least thirty hundredths are of red, which is the dearer one.
CHEAP = (("cheap", 2, SHELF, SHADE, 10, (2, 5), (29, 1)), (((7, 1), (3, 1)), ((3, 1), (0, 1))))
MORE = (("more", 2, VAT, SHELF, EVEN, (4, 1)), (((4, 1), (0, 1)), ((0, 1), (1, 50))))
ABOVE = (("above", 2, VAT, SHELF, EVEN, 3), ((0, 1), (1, 50)))
# x serves all three, b and c serve silk alone, y none.
SERVED = (("served", 2, LEAVINGS, CLOTHS, 2), ((("linen", "x"), ("silk", "b")), (("x",), ("silk",))))
RIGHT = {"near": NEAR, "cheap": CHEAP, "more": MORE, "above": ABOVE, "served": SERVED}
ALL_RIGHT = [*RIGHT.values(), MATCH]

NO_MANY = [1, 5, 0, -2, True, None, "2", (2,), [2], 3, 4]
NO_NAMES = ["", "Blue", "BLUE", "bluebel", "blu e", "b1", b"blue", None, 1, ("blue",), ["blue"]]
NO_NUMBERS = [0, -1, 10000, GREAT, True, False, None, "9", (9, 1), [9], (9,)]
NO_PARTS = [(0, 0), (1, -1), (1,), (1, 1, 1), [0, 1], (True, 1), (0, True), (None, 1), ("0", 1), ((0, 1), 1), None, 1, {}]
NO_SHADES = [
    ((50, 50), (51, 51)), ((50, 50), (49, 49)), ((51, 60), (50, 60)), ((0, 50), (0, 49)), ((60, 50), (50, 60)), ((0, 101), (0, 100)),
    ((-1, 100), (0, 100)), [(50, 50), (50, 50)], ([50, 50], (50, 50)), ((50, 50),), ((50, 50), (50, 50), (0, 0)), ((50,), (50, 50)),
    ((50, 50, 50), (50, 50)), ((True, 100), (0, 100)), ((0, 100), (False, 100)), None, 1, "ab", (),
]
NO_FRACTIONS = [(1, 0), (0, 2), (2, 4), (1, -1), (True, 1), (1, True), (1,), (1, 1, 1), [1, 1], 1, None, "1", {}, ("1", 1)]


def replaced(thing, path, new):
    """The tuple with another thing at the end of a path of places."""
    if not path:
        return new
    return thing[:path[0]] + (replaced(thing[path[0]], path[1:], new),) + thing[path[0] + 1:]


def paths(thing):
    """The paths to a tuple and to all that is in it."""
    yield ()
    if type(thing) is tuple:
        for place, inner in enumerate(thing):
            for path in paths(inner):
                yield (place, *path)


def shelves_put_wrong(shelf):
    """What is no SHELF or LEAVINGS, a row, a name, a number or parts put otherwise."""
    first, second = shelf[:2]
    wrong = [shelf[::-1], (first, first), [*shelf], (list(first), second), (first[:2], second), ((*first, 1), second), None, 1]
    wrong += [((name, *first[1:]), second) for name in [*NO_NAMES, "zebra", second[0]]]
    wrong += [((first[0], left, first[2]), second) for left in NO_NUMBERS]
    wrong += [((*first[:2], parts), second) for parts in NO_PARTS]
    return wrong


class CheckerCase(unittest.TestCase):
    def taken(self, pair):
        self.assertIs(holds(*pair), True, pair)
        self.assertTrue(holds_as_told(*pair), pair)

    def refused(self, pair):
        self.assertIs(holds(*pair), False, pair)
        self.assertFalse(holds_as_told(*pair), pair)

    def all_refused(self, pair, path, new):
        """Taken as it is, but with none of these things at the end of this path."""
        self.taken(pair)
        for thing in new:
            self.refused(replaced(pair, path, thing))

    def all_taken(self, pair, path, new):
        for thing in new:
            self.taken(replaced(pair, path, thing))


class Words(CheckerCase):
    def test_each_is_taken(self):
        for pair in ALL_RIGHT:
            self.taken(pair)

    def test_another_word(self):
        for word, (claim, paper) in RIGHT.items():
            for other in [*WORDS, word.upper(), word.title(), word + " ", "", "far", "match", None, 1, b"near", (word,), [word]]:
                if other != word:
                    self.refused(((other, *claim[1:]), paper))

    def test_the_word_alone_and_a_part_more_or_less(self):
        for word, (claim, paper) in RIGHT.items():
            for other in (word, (word,), (), claim[1:], list(claim), None, claim[0], {}, (claim,), (claim, paper)):
                self.refused((other, paper))
            for length in range(len(claim)):
                self.refused((claim[:length], paper))
            for more in (None, 1, paper, ()):
                self.refused(((*claim, more), paper))
            for place in range(1, len(claim)):
                self.refused((claim[:place] + claim[place + 1:], paper))

    def test_papers_of_another_form(self):
        for word, (claim, paper) in RIGHT.items():
            wrong = [None, (), list(paper), paper[:1], (*paper, paper[0]), (paper,), (*paper, None), {}, "ab", 1, True, claim]
            wrong += [paper[::-1], (paper[0], list(paper[1])), (list(paper[0]), paper[1])]
            for other in wrong:
                self.refused((claim, other))

    def test_no_many(self):
        for word in WORDS:
            self.all_refused(RIGHT[word], (0, 1), NO_MANY)

    def test_three_and_four_stuffs(self):
        for many in (3, 4):
            shade = ((0, 100),) * many
            noughts = ((0, 1),) * many
            shelf = (("a", 5, (1,) * many),)
            self.taken((("near", many, shelf, shade, 5, (0, 1)), (((5, 1),), noughts)))
            self.taken((("more", many, (1, (1,) * many), shelf, shade, (0, 1)), (((0, 1),), noughts)))
            self.taken((("served", many, shelf, (), 0), ((), ((), ()))))
            self.refused((("near", many, shelf, shade, 5, (0, 1)), (((5, 1),), noughts[1:])))
            self.refused((("near", many - 1, shelf, shade, 5, (0, 1)), (((5, 1),), noughts)))
        five = (("near", 5, (("a", 5, (1,) * 5),), ((0, 100),) * 5, 5, (0, 1)), (((5, 1),), ((0, 1),) * 5))
        self.refused(five)
        self.refused((("served", 1, (), (), 0), ((), ((), ()))))


class TheSame(CheckerCase):
    """What several claims have alike."""

    def test_no_shelf(self):
        for word, path in (("near", (0, 2)), ("cheap", (0, 2)), ("more", (0, 3)), ("above", (0, 3))):
            self.all_refused(RIGHT[word], path, [*shelves_put_wrong(SHELF), ()])

    def test_one_row_more_or_less(self):
        for word, path in (("near", (0, 2)), ("cheap", (0, 2)), ("more", (0, 3))):
            self.all_refused(RIGHT[word], path, [SHELF[:1], SHELF[1:], (*SHELF, ("weld", 9, (1, 1)))])
        for word, path in (("above", (0, 3)),):
            self.taken(replaced(RIGHT[word], path, SHELF[:1]))

    def test_four_things_and_five(self):
        noughts = ((0, 1), (0, 1))
        amounts = ((0, 1), (0, 1), (4, 1), (0, 1))
        five = (*FOUR, ("e", 9, (1, 1)))
        self.taken((("near", 2, FOUR, EVEN, 4, (0, 1)), (amounts, noughts)))
        self.refused((("near", 2, five, EVEN, 4, (0, 1)), ((*amounts, (0, 1)), noughts)))
        self.taken((("cheap", 2, FOUR, EVEN, 4, (0,) * 4, (0, 1)), (amounts, noughts)))
        self.refused((("cheap", 2, five, EVEN, 4, (0,) * 5, (0, 1)), ((*amounts, (0, 1)), noughts)))
        self.taken((("more", 2, (4, (1, 1)), FOUR, EVEN, (0, 1)), (((0, 1),) * 4, noughts)))
        self.refused((("more", 2, (4, (1, 1)), five, EVEN, (0, 1)), (((0, 1),) * 5, noughts)))
        # Of the first stuff nothing may be there, and all that is there is of it.
        pure = tuple((name, 9, (1, 0)) for name in "abcde")
        weights = ((-1, 1), (0, 1))
        self.taken((("above", 2, (1, (1, 0)), pure[:4], ((0, 0), (100, 100)), 36), weights))
        self.refused((("above", 2, (1, (1, 0)), pure, ((0, 0), (100, 100)), 36), weights))

    def test_no_shade(self):
        for word, path in (("near", (0, 3)), ("cheap", (0, 3)), ("more", (0, 4)), ("above", (0, 4))):
            self.all_refused(RIGHT[word], path, NO_SHADES)

    def test_no_measures(self):
        for word in ("near", "cheap"):
            self.all_refused(RIGHT[word], (0, 4), NO_NUMBERS)
        self.all_refused(NEAR, (0, 4), [7, 9, 12, 13, 9999])
        self.all_refused(CHEAP, (0, 4), [9, 11, 12, 13, 9999])
        # So many measures that a mixing of them is none by its number alone.
        shelf = tuple((name, 9999, (1, 1)) for name in "ab")
        noughts = ((0, 1), (0, 1))
        self.taken((("near", 2, shelf, EVEN, 9999, (0, 1)), (((9999, 1), (0, 1)), noughts)))
        self.refused((("near", 2, shelf, EVEN, 10000, (0, 1)), (((9999, 1), (1, 1)), noughts)))
        self.refused((("near", 2, shelf, EVEN, 0, (0, 1)), (((0, 1), (0, 1)), noughts)))
        self.refused((("cheap", 2, shelf, EVEN, 10000, (0, 0), (0, 1)), (((9999, 1), (1, 1)), noughts)))
        self.refused((("cheap", 2, shelf, EVEN, 0, (0, 0), (0, 1)), (((0, 1), (0, 1)), noughts)))

    def test_left_of_ten_thousand(self):
        noughts = ((0, 1), (0, 1))
        for left, check in ((9999, self.taken), (10000, self.refused)):
            shelf = (("a", left, (1, 1)),)
            check((("near", 2, shelf, EVEN, 5, (0, 1)), (((5, 1),), noughts)))
            check((("cheap", 2, shelf, EVEN, 5, (0,), (0, 1)), (((5, 1),), noughts)))
            check((("more", 2, (5, (1, 1)), shelf, EVEN, (0, 1)), (((0, 1),), noughts)))
            check((("above", 2, (1, (1, 0)), (("a", left, (1, 0)),), ((0, 0), (100, 100)), 36), ((-1, 1), (0, 1))))
            check((("served", 2, shelf, (), 0), ((), ((), ()))))

    def test_no_fractions(self):
        for word in ("near", "cheap", "more"):
            path = (0, LENGTHS[word] - 1)
            self.all_refused(RIGHT[word], path, NO_FRACTIONS)
            top, bottom = RIGHT[word][0][-1]
            one_off = [(top + 1, 1), (top - 1, 1), (-top, 1), (2 * top, 2), (top, -1), (3 * top + 1, 3), (3 * top - 1, 3), top, (-1, 1)]
            self.all_refused(RIGHT[word], path, [*one_off, (GREAT, 1)])

    def test_amounts(self):
        for word in ("near", "cheap", "more"):
            self.all_refused(RIGHT[word], (1, 0), [(), [*RIGHT[word][1][0]], None, 1, ((8, 1),), ((5, 1), (3, 1), (0, 1))])
            for place in (0, 1):
                self.all_refused(RIGHT[word], (1, 0, place), [*NO_FRACTIONS, (-1, 1), (10, 1), (1, 2), (GREAT, 1)])
        # Above what is left of red, with the sum and the FAR that would be.
        self.refused((("near", 2, SHELF, EVEN, 8, (0, 1)), (((4, 1), (4, 1)), ((0, 1), (0, 1)))))
        self.refused((("near", 2, SHELF, EVEN, 8, (100, 1)), (((3, 1), (5, 1)), ((0, 1), (1, 1)))))
        self.refused((("more", 2, (4, (0, 1)), SHELF, EVEN, (4, 1)), (((0, 1), (4, 1)), ((1, 50), (0, 1)))))
        self.refused((("cheap", 2, SHELF, EVEN, 8, (0, 0), (0, 1)), (((4, 1), (4, 1)), ((0, 1), (0, 1)))))
        # Below 0, the sum as it must be.
        self.refused((("near", 2, SHELF, EVEN, 1, (150, 1)), (((2, 1), (-1, 1)), ((1, 1), (0, 1)))))
        self.refused((("cheap", 2, FOUR[:3], EVEN, 2, (1, 1, 3), (0, 1)), (((2, 1), (2, 1), (-2, 1)), ((0, 1), (0, 1)))))
        self.refused((("more", 2, VAT, (*SHELF, ("weld", 9, (1, 1))), EVEN, (3, 1)), (((4, 1), (0, 1), (-1, 1)), ((0, 1), (1, 50)))))

    def test_weights(self):
        for word, path in (("near", (1, 1)), ("cheap", (1, 1)), ("more", (1, 1)), ("above", (1,))):
            pair = RIGHT[word]
            weights = pair[1] if word == "above" else pair[1][1]
            wrong = [(), [*weights], weights[:1], (*weights, (0, 1)), weights[::-1], None, 1, ((0, 1),) * 2, ((0, 1),) * 3]
            self.all_refused(pair, path, wrong)
            for place in (0, 1):
                self.all_refused(pair, (*path, place), NO_FRACTIONS)
                top, bottom = weights[place]
                self.all_refused(pair, (*path, place), [(2 * top, 2 * bottom), (-top, -bottom), list(weights[place])])


class Near(CheckerCase):
    def test_weights_so_many_times_the_right_ones(self):
        self.all_taken(NEAR, (1, 1, 0), [(2, 1), (1, 2), (1, 7), (100, 3), (GREAT, 1), (1, GREAT)])
        self.all_refused(NEAR, (1, 1, 0), [(-1, 1), (0, 1), (-1, 7)])
        self.all_taken(NEAR, (1, 1), [((0, 1), (-1, 1)), ((0, 1), (-5, 3)), ((1, 1), (-1, 1)), ((1, 3), (-2, 3))])
        self.all_refused(NEAR, (1, 1), [((0, 1), (1, 1)), ((-1, 1), (1, 1)), ((1, 1), (1, 1)), ((1, 1), (1, 99))])

    def test_weights_where_it_is_a_match(self):
        # No weights can show more than 0, those that show less are none for it.
        self.all_taken(MATCH, (1, 1), [((1, 1), (0, 1)), ((1, 1), (-1, 1)), ((0, 1), (-1, 3)), ((1, 7), (-2, 7))])
        self.all_refused(MATCH, (1, 1), [((-1, 1), (0, 1)), ((0, 1), (1, 1)), ((-1, 1), (1, 1)), ((-1, GREAT), (0, 1))])
        self.taken((("near", 2, SHELF, SHADE, 6, (0, 1)), (((3, 1), (3, 1)), ((0, 1), (0, 1)))))
        self.refused((("near", 2, SHELF, SHADE, 6, (0, 1)), (((3, 1), (3, 1)), ((1, 1), (0, 1)))))

    def test_a_mixing_that_is_farther(self):
        self.refused((("near", 2, SHELF, EVEN, 8, (150, 1)), (((11, 2), (5, 2)), ((1, 1), (0, 1)))))
        self.refused((("near", 2, SHELF, EVEN, 8, (400, 1)), (((8, 1), (0, 1)), ((1, 1), (0, 1)))))
        self.refused((("near", 2, SHELF, EVEN, 8, (400, 1)), (((8, 1), (0, 1)), ((0, 1), (0, 1)))))
        self.refused((("near", 2, SHELF, EVEN, 6, (100, 1)), (((4, 1), (2, 1)), ((0, 1), (0, 1)))))

    def test_another_far_than_that_of_the_mixing(self):
        for distance in ((0, 1), (99, 1), (101, 1), (50, 1), (-100, 1)):
            self.refused(replaced(NEAR, (0, 5), distance))
        self.refused(replaced(MATCH, (0, 5), (1, 1)))


class Cheap(CheckerCase):
    def test_prices(self):
        self.all_refused(CHEAP, (0, 5), [
            (2,), (2, 5, 0), (), [2, 5], (2, -1), (-2, 5), (2, 1000), (1000, 5), (True, 5), (2, True), (2, None), ("2", 5),
            ((2, 1), (5, 1)), None, 2, {}, (5, 2), (2, 4), (3, 5), (0, 0),
        ])
        noughts = ((0, 1), (0, 1))
        for price, check in ((0, self.taken), (1, self.taken), (999, self.taken), (1000, self.refused), (-1, self.refused)):
            check((("cheap", 2, (("a", 5, (1, 1)),), EVEN, 5, (price,), (5 * price, 1)), (((5, 1),), noughts)))
        # True would cost as much as 1.
        self.refused((("cheap", 2, (("a", 5, (1, 1)),), EVEN, 5, (True,), (5, 1)), (((5, 1),), noughts)))

    def test_a_match_that_is_dearer(self):
        for red in (Fraction(31, 10), Fraction(7, 2), Fraction(3)):
            cost = 2 * (9 - red) + 5 * red
            amounts = (told(9 - red), told(red))
            weights = ((3, 1), (0, 1))
            self.refused((("cheap", 2, SHELF, SHADE, 9, (2, 5), told(cost)), (amounts, weights)))
        self.taken((("cheap", 2, SHELF, SHADE, 9, (2, 5), told(Fraction(261, 10))), (((63, 10), (27, 10)), ((3, 1), (0, 1)))))

    def test_no_match(self):
        # It costs as little as the floor tells, but is 100 far.
        weights = ((0, 1), (0, 1))
        self.refused((("cheap", 2, SHELF, EVEN, 8, (0, 0), (0, 1)), (((5, 1), (3, 1)), weights)))
        self.taken((("cheap", 2, SHELF, EVEN, 6, (0, 0), (0, 1)), (((3, 1), (3, 1)), weights)))

    def test_weights_whose_floor_is_less(self):
        self.all_refused(CHEAP, (1, 1), [((0, 1), (0, 1)), ((29, 10), (0, 1)), ((-3, 1), (0, 1)), ((5, 1), (2, 1))])
        # All that is left of red goes in, so it may weigh more, too.
        self.all_taken(CHEAP, (1, 1), [((31, 10), (0, 1)), ((6, 1), (0, 1)), ((0, 1), (-3, 1)), ((1, 1), (-2, 1))])
        nine = (("cheap", 2, SHELF, SHADE, 9, (2, 5), (261, 10)), (((63, 10), (27, 10)), ((3, 1), (0, 1))))
        self.all_refused(nine, (1, 1), [((29, 10), (0, 1)), ((31, 10), (0, 1)), ((6, 1), (0, 1))])


class More(CheckerCase):
    def test_vats(self):
        wrong = [(0, (1, 0)), (-4, (1, 0)), (100000, (1, 0)), (True, (1, 0)), ((4, 1), (1, 0)), ("4", (1, 0)), (4,), (4, (1, 0), 1)]
        wrong += [[4, (1, 0)], ((1, 0), 4), (4, 1), None, 4, {}, *[(4, parts) for parts in [*NO_PARTS, (0, 0), [1, 0]]]]
        for word in ("more", "above"):
            self.all_refused(RIGHT[word], (0, 2), wrong)
        self.all_refused(MORE, (0, 2), [(3, (1, 0)), (5, (1, 0)), (4, (0, 1)), (4, (1, 1))])
        self.all_taken(MORE, (0, 2), [(4, (7, 0)), (4, (GREAT, 0))])
        noughts = ((0, 1), (0, 1))
        for measures, check in ((1, self.taken), (99999, self.taken), (100000, self.refused), (0, self.refused)):
            check((("more", 2, (measures, (1, 1)), SHELF, EVEN, (0, 1)), (((0, 1), (0, 1)), noughts)))
        # True measures would need as much as one.
        self.taken((("more", 2, (1, (1, 0)), SHELF, EVEN, (1, 1)), (((1, 1), (0, 1)), ((0, 1), (1, 50)))))
        self.refused((("more", 2, (True, (1, 0)), SHELF, EVEN, (1, 1)), (((1, 1), (0, 1)), ((0, 1), (1, 50)))))

    def test_what_mends_nothing(self):
        for blue in (3, 5):
            self.refused((("more", 2, VAT, SHELF, EVEN, (blue, 1)), (((blue, 1), (0, 1)), ((0, 1), (1, 50)))))
        self.refused((("more", 2, VAT, SHELF, EVEN, (0, 1)), (((0, 1), (0, 1)), ((0, 1), (0, 1)))))

    def test_a_mending_that_adds_more(self):
        for red in (1, 2, 3):
            added = 4 + 2 * red
            amounts = ((4 + red, 1), (red, 1))
            self.refused((("more", 2, VAT, SHELF, EVEN, (added, 1)), (amounts, ((0, 1), (1, 50)))))
            self.refused((("more", 2, VAT, SHELF, EVEN, (4, 1)), (amounts, ((0, 1), (1, 50)))))

    def test_weights_whose_more_is_less(self):
        self.all_refused(MORE, (1, 1), [((0, 1), (1, 51)), ((0, 1), (1, 49)), ((0, 1), (1, 25)), ((0, 1), (-1, 50)), ((1, 50), (0, 1))])
        self.all_taken(MORE, (1, 1), [((-1, 50), (0, 1)), ((-1, 100), (1, 100))])

    def test_above_a_room(self):
        self.all_taken(ABOVE, (0, 5), [0, 1, 2, 3])
        self.all_refused(ABOVE, (0, 5), [4, 5, 9999, GREAT, -1, -GREAT, True, False, None, "3", (3, 1), (7, 2), [3], (), {}])
        self.all_taken(ABOVE, (1,), [((0, 1), (19, 1000)), ((-1, 50), (0, 1)), ((0, 1), (13, 600))])
        self.all_refused(ABOVE, (1,), [((0, 1), (3, 200)), ((0, 1), (1, 100)), ((0, 1), (1, 25)), (((0, 1), (1, 50)),)])

    def test_above_all_that_is_left(self):
        claim = ("above", 2, (4, (0, 1)), SHELF, EVEN, 12)
        self.taken((claim, ((1, 5), (0, 1))))
        self.taken((claim, ((GREAT, 1), (0, 1))))
        self.refused((claim, ((1, 50), (0, 1))))


class Served(CheckerCase):
    def test_how(self):
        self.all_refused(SERVED, (0, 4), [1, 3, 0, -2, True, None, "2", (2, 1), (2,), [2], GREAT])
        one = (("served", 2, LEAVINGS[:1], CLOTHS[1:2], 1), ((("silk", "b"),), ((), ("silk",))))
        self.all_refused(one, (0, 4), [True, 0, 2, None])
        none = (("served", 2, (), (), 0), ((), ((), ())))
        self.all_refused(none, (0, 4), [False, 1, None])

    def test_leavings(self):
        self.all_refused(SERVED, (0, 2), shelves_put_wrong(LEAVINGS))
        self.all_refused(SERVED, (0, 2), [(), LEAVINGS[:2], LEAVINGS[2:3], (*LEAVINGS, ("z", 9, (1, 1)))])
        self.all_taken(SERVED, (0, 2), [LEAVINGS[:3], (LEAVINGS[0], LEAVINGS[2])])
        for length, check in ((8, self.taken), (9, self.refused)):
            check((("served", 2, tuple((name, 1, (1, 0)) for name in "abcdefghi"[:length]), CLOTHS, 0), ((), ((), ()))))

    def test_cloths(self):
        first, *others = CLOTHS
        wrong = [CLOTHS[::-1], (first, first), [*CLOTHS], (list(first), *others), (first[:2], *others), ((*first, 1), *others), None, 1]
        wrong += [((name, *first[1:]), *others) for name in [*NO_NAMES, "silk", "zebra"]]
        wrong += [((first[0], measures, first[2]), *others) for measures in NO_NUMBERS]
        wrong += [((*first[:2], shade), *others) for shade in NO_SHADES]
        self.all_refused(SERVED, (0, 3), wrong)
        self.all_refused(SERVED, (0, 3), [(), CLOTHS[:1], CLOTHS[1:], (("linen", 10, EVEN), *others)])
        self.all_refused(SERVED, (0, 3), [(("linen", 2, EVEN), *others), (("linen", 9, ANY), *others)])
        self.all_taken(SERVED, (0, 3), [CLOTHS[:2], (("linen", 9, EVEN), *others), (("linen", 3, ((40, 60), (50, 50))), *others)])
        for length, check in ((8, self.taken), (9, self.refused)):
            check((("served", 2, LEAVINGS, tuple((name, 10, EVEN) for name in "abcdefghi"[:length]), 0), ((), ((), ()))))

    def test_pairs(self):
        linen, silk, wool = ("linen", "x"), ("silk", "b"), ("wool", "x")
        self.all_taken(SERVED, (1, 0), [(("silk", "c"), wool), (linen, ("silk", "c")), (silk, wool)])
        self.all_refused(SERVED, (1, 0), [
            (silk, linen), (linen, linen), (linen,), (), (linen, silk, wool), (linen, wool), (("silk", "b"), ("silk", "c")),
            (linen, ("silk", "x")), (linen, ("wool", "y")), (linen, ("linen", "b")), (linen, ("silk", "z")), (linen, ("zz", "b")),
            [linen, silk], (list(linen), silk), (linen, ("silk",)), (linen, ("silk", "b", "c")), (linen, ("b", "silk")),
            (linen, None), (linen, "silk"), (linen, ("silk", None)), (linen, (["silk"], "b")), (linen, ({}, [])), None, 2, {linen: silk},
            (linen, (deep("silk", 10), "b")), (linen, (b"silk", "b")), (linen, ("Silk", "b")),
        ])

    def test_cover(self):
        self.all_refused(SERVED, (1, 1), [
            ((), ("linen", "silk", "wool")), (("x",), ()), ((), ("silk",)), (("b", "c", "x"), ()), (("x",), ("linen",)), (("b", "x"), ()),
            (("silk",), ("x",)), (("x",), ("silk", "silk")), (("x", "x"), ()), (("x",), ("silk", "wool")), (("x",), ("silk",), ()),
            (("x",),), [("x",), ("silk",)], (["x"], ("silk",)), (("x",), ["silk"]), ("x", "silk"), (("x",), "silk"), ("x", ("silk",)),
            (("z",), ("silk",)), (("x",), ("zz",)), (("x", 1), ("silk",)), ((None,), ("silk",)), (("x",), (["silk"],)), None, 2, (),
            (("x",), ({"silk": 1},)), ((b"x",), ("silk",)),
        ])
        # Falling, or a name twice, of as many as there are pairs.
        leavings, cloths = (("a", 9, (1, 1)), ("b", 9, (1, 1))), (("c", 5, EVEN), ("d", 5, EVEN), ("e", 5, EVEN))
        pair = (("served", 2, leavings, cloths, 2), ((("c", "a"), ("d", "b")), (("a", "b"), ())))
        self.all_refused(pair, (1, 1), [(("b", "a"), ()), (("a", "a"), ()), (("a",), ("c",)), ((), ("c", "d"))])
        pair = (("served", 2, leavings, cloths[:2], 2), ((("c", "a"), ("d", "b")), ((), ("c", "d"))))
        self.all_refused(pair, (1, 1), [((), ("d", "c")), ((), ("c", "c")), (("a",), ("c",)), (("a",), ("d",))])
        self.all_taken(pair, (1, 1), [(("a", "b"), ())])

    def test_fewer_pairs_than_can_be(self):
        claim = ("served", 2, LEAVINGS, CLOTHS, 1)
        for cover in ((("x",), ()), ((), ("silk",)), (("x",), ("silk",))):
            self.refused((claim, ((("linen", "x"),), cover)))
        self.refused((("served", 2, LEAVINGS, CLOTHS, 0), ((), ((), ()))))

    def test_names_alike_in_both(self):
        leavings, cloths = (("a", 9, (1, 0)), ("b", 9, (1, 1))), (("a", 5, EVEN), ("c", 5, EVEN))
        self.taken((("served", 2, leavings, cloths, 1), ((("a", "b"),), (("b",), ()))))
        self.refused((("served", 2, leavings, cloths, 1), ((("a", "b"),), ((), ("a",)))))
        self.refused((("served", 2, leavings, cloths, 1), ((("a", "b"),), (("a",), ()))))
        self.refused((("served", 2, leavings, cloths, 1), ((("b", "a"),), (("b",), ()))))


class OfAnyKind(CheckerCase):
    def test_things_for_claim_and_paper(self):
        for thing in [*things(), Odd(), [NEAR[0]], {"near": NEAR}, frozenset({"near"})]:
            for claim, paper in ALL_RIGHT:
                self.assertIs(holds(thing, paper), False)
                self.assertIs(holds(claim, thing), holds_as_told(claim, thing))
                self.assertIs(holds(thing, thing), False)

    def test_things_at_every_place(self):
        handed = [thing for at, thing in enumerate(things()) if at < 60 or at % 9 == 0]
        for pair in ALL_RIGHT:
            for path in paths(pair):
                for thing in handed if path else ():
                    changed = replaced(pair, path, thing)
                    self.assertIs(holds(*changed), holds_as_told(*changed), changed)

    def test_things_that_are_the_same_as_all_or_as_nothing(self):
        for pair in ALL_RIGHT:
            for path in paths(pair):
                for thing in (Same(), Sour()) if path else ():
                    self.assertIs(holds(*replaced(pair, path, thing)), False, path)

    def test_lists_for_tuples_and_truths_for_numbers(self):
        for pair in ALL_RIGHT:
            for path in paths(pair):
                inner = pair
                for place in path:
                    inner = inner[place]
                if path and type(inner) is tuple:
                    for other in (list(inner), inner + inner[:1], inner[:-1] or None, {part: 1 for part in inner}):
                        self.assertIs(holds(*replaced(pair, path, other)), holds_as_told(*replaced(pair, path, other)))
                    self.assertIs(holds(*replaced(pair, path, list(inner))), False)
                if inner in (0, 1) and type(inner) is int:
                    self.assertIs(holds(*replaced(pair, path, bool(inner))), False)

    def test_nothing_handed_in_is_changed(self):
        inner = [["a", 1, [1, 1]], {"a": [1]}]
        ahead = copy.deepcopy(inner)
        for claim, paper in ALL_RIGHT:
            for place in range(len(claim)):
                holds(replaced(claim, (place,), inner), paper)
                holds(claim, inner)
                holds(claim, (inner, inner))
        self.assertEqual(inner, ahead)


class ByChance(CheckerCase):
    def test_one_part_put_otherwise(self):
        taken = refused = 0
        for seed in range(60):
            chance = random.Random(seed)
            for pair in some_papers(seed):
                self.taken(pair)
                for path in chance.sample(list(paths(pair))[1:], 12):
                    inner = pair
                    for place in path:
                        inner = inner[place]
                    changed = replaced(pair, path, self.otherwise(inner, chance))
                    answer = holds(*changed)
                    self.assertIs(answer, holds_as_told(*changed), changed)
                    taken += answer
                    refused += not answer
        self.assertGreater(taken, 300)
        self.assertGreater(refused, 2000)

    def otherwise(self, thing, chance):
        """Something like this thing, taken by chance."""
        if type(thing) is int:
            return chance.choice((thing + 1, thing - 1, 2 * thing, -thing, 0, 1))
        if type(thing) is str:
            return chance.choice((thing + "a", thing[:-1], "b", *WORDS))
        if len(thing) == 2 and all(type(part) is int for part in thing):
            return chance.choice((told(Fraction(thing[0] + 1, thing[1] or 1)), (0, 1), (1, 1), (2 * thing[0], 2 * thing[1])))
        return chance.choice((thing[::-1], thing[1:], thing[:-1], thing + thing[:1], thing[1:] + thing[:1]))

    def test_weights_so_many_times_and_a_little_off(self):
        for seed in range(80):
            chance = random.Random(seed)
            for claim, paper in some_papers(seed):
                if claim[0] != "served":
                    weights = paper if claim[0] == "above" else paper[1]
                    for times in (Fraction(1, 3), Fraction(2), Fraction(-1), Fraction(101, 100), Fraction(99, 100)):
                        others = tuple(told(times * Fraction(*weight)) for weight in weights)
                        pair = (claim, others if claim[0] == "above" else (paper[0], others))
                        self.assertIs(holds(*pair), holds_as_told(*pair), pair)
                        if claim[0] == "near" and times > 0:
                            self.taken(pair)
                    place = chance.randrange(len(weights))
                    others = replaced(weights, (place,), told(Fraction(*weights[place]) + Fraction(1, 997)))
                    pair = (claim, others if claim[0] == "above" else (paper[0], others))
                    self.assertIs(holds(*pair), holds_as_told(*pair), pair)

    def test_claims_with_papers_of_other_questions(self):
        for seed in range(40):
            pairs = [*some_papers(seed), *some_papers(seed + 1), *ALL_RIGHT]
            for (claim, own), (other, paper) in itertools.product(pairs, pairs):
                self.assertIs(holds(claim, paper), holds_as_told(claim, paper))

    def test_asked_twice_the_same_is_told(self):
        for pair in ALL_RIGHT:
            self.assertIs(holds(*pair), True)
            self.assertIs(holds(pair[0], None), False)
            self.assertIs(holds(*pair), True)


if __name__ == "__main__":
    unittest.main()
