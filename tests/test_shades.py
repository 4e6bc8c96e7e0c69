"""Shades: points 2, 5 and 6, the interface's row `shades`."""

import copy
import itertools
import unittest
from fractions import Fraction

from tests.things import GREAT, NO_MANYS, far_as_told, parts_as_told, put, shade_as_told, stuffs_as_told, things
from vatmatch.errors import NoMany, NoShade, NoStuffs
from vatmatch.shades import far, is_name, is_parts, is_shade

PARTS = {2: (3, 5), 3: (0, 2, 4), 4: (1, 0, 0, 99)}
SHADES = {
    2: ((30, 60), (40, 70)),
    3: ((10, 20), (30, 50), (0, 100)),
    4: ((25, 25), (25, 25), (25, 25), (25, 25)),
}
STUFFS = {
    2: ((1, 2), (0, 1)),
    3: ((1, 2), (1, 3), (1, 6)),
    4: ((7, 1), (0, 1), (22, 7), (1, GREAT)),
}
MANYS = (2, 3, 4)


class Names(unittest.TestCase):
    def test_names(self):
        for name in ("a", "z", "az", "madder", "zzzzzz"):
            self.assertIs(is_name(name), True)

    def test_no_names(self):
        for thing in ("", "madders", "A", "aB", "a1", "a ", " a", "a-b", "a_b", "a`", "a{", "\u00e9", "a\n"):
            self.assertIs(is_name(thing), False, thing)
        for thing in things():
            if not isinstance(thing, str):
                self.assertIs(is_name(thing), False, repr(thing)[:80])


class Many(unittest.TestCase):
    def test_refused_whatever_else_is_handed_in(self):
        seconds = [*PARTS.values(), *SHADES.values(), *STUFFS.values(), None, 0, (), [], "a"]
        for many in NO_MANYS:
            for second in seconds:
                with self.assertRaises(NoMany):
                    is_parts(many, second)
                with self.assertRaises(NoMany):
                    is_shade(many, second)
                for third in seconds:
                    with self.assertRaises(NoMany):
                        far(many, second, third)


class Parts(unittest.TestCase):
    def test_things_of_any_kind(self):
        for many in MANYS:
            for thing in things():
                self.assertIs(is_parts(many, thing), parts_as_told(many, thing), repr((many, thing))[:80])

    def test_things_of_any_kind_at_every_place(self):
        for many in MANYS:
            for place in range(many):
                for thing in things():
                    row = put(PARTS[many], place, thing)
                    self.assertIs(is_parts(many, row), parts_as_told(many, row), repr(row)[:80])

    def test_parts(self):
        for many in MANYS:
            self.assertIs(is_parts(many, PARTS[many]), True)
            for place in range(many):
                self.assertIs(is_parts(many, put((0,) * many, place, 1)), True)
                self.assertIs(is_parts(many, put((0,) * many, place, GREAT)), True)
            self.assertIs(is_parts(many, (GREAT,) * many), True)

    def test_no_parts(self):
        for many in MANYS:
            self.assertIs(is_parts(many, (0,) * many), False)
            self.assertIs(is_parts(many, (1,) * (many - 1)), False)
            self.assertIs(is_parts(many, (1,) * (many + 1)), False)
            self.assertIs(is_parts(many, [1] * many), False)
            for place in range(many):
                for thing in (-1, -GREAT, True, False, None, "1", (1,), [1], (1, 1)):
                    self.assertIs(is_parts(many, put((1,) * many, place, thing)), False)


class Shades(unittest.TestCase):
    def test_things_of_any_kind(self):
        for many in MANYS:
            for thing in things():
                self.assertIs(is_shade(many, thing), shade_as_told(many, thing), repr((many, thing))[:80])

    def test_things_of_any_kind_at_every_place(self):
        for many in MANYS:
            shade = ((0, 100),) * many
            for place in range(many):
                for thing in things():
                    row = put(shade, place, thing)
                    self.assertIs(is_shade(many, row), shade_as_told(many, row), repr(row)[:80])
                    for side in (0, 1):
                        row = put(shade, place, put((0, 100), side, thing))
                        self.assertIs(is_shade(many, row), shade_as_told(many, row), repr(row)[:80])

    def test_all_bounds_of_two_stuffs(self):
        bounds = (-1, 0, 1, 49, 50, 51, 99, 100, 101)
        pairs = list(itertools.product(bounds, bounds))
        for shade in itertools.product(pairs, pairs):
            self.assertIs(is_shade(2, shade), shade_as_told(2, shade), shade)

    def test_shades(self):
        for many in MANYS:
            self.assertIs(is_shade(many, SHADES[many]), True)
            self.assertIs(is_shade(many, ((0, 100),) * many), True)
            self.assertIs(is_shade(many, ((100, 100),) + ((0, 0),) * (many - 1)), True)

    def test_low_above_high(self):
        self.assertIs(is_shade(2, ((50, 49), (0, 100))), False)
        self.assertIs(is_shade(3, ((0, 100), (0, 100), (2, 1))), False)

    def test_bounds_below_nought_and_above_a_hundred(self):
        for many in MANYS:
            for place in range(many):
                for pair in ((-1, 100), (0, 101), (-1, -1), (101, 101), (0, GREAT), (-GREAT, 100)):
                    self.assertIs(is_shade(many, put(((0, 100),) * many, place, pair)), False)

    def test_all_lows_together(self):
        self.assertIs(is_shade(2, ((40, 100), (60, 100))), True)
        self.assertIs(is_shade(2, ((41, 100), (60, 100))), False)
        self.assertIs(is_shade(3, ((40, 100), (30, 100), (30, 100))), True)
        self.assertIs(is_shade(3, ((40, 100), (30, 100), (31, 100))), False)
        self.assertIs(is_shade(4, ((25, 100),) * 4), True)
        self.assertIs(is_shade(4, ((25, 100), (26, 100), (25, 100), (25, 100))), False)

    def test_all_highs_together(self):
        self.assertIs(is_shade(2, ((0, 40), (0, 60))), True)
        self.assertIs(is_shade(2, ((0, 40), (0, 59))), False)
        self.assertIs(is_shade(3, ((0, 40), (0, 30), (0, 30))), True)
        self.assertIs(is_shade(3, ((0, 39), (0, 30), (0, 30))), False)
        self.assertIs(is_shade(4, ((0, 25),) * 4), True)
        self.assertIs(is_shade(4, ((0, 25), (0, 25), (0, 24), (0, 25))), False)

    def test_another_number_or_kind(self):
        for many in MANYS:
            self.assertIs(is_shade(many, ((0, 100),) * (many - 1)), False)
            self.assertIs(is_shade(many, ((0, 100),) * (many + 1)), False)
            self.assertIs(is_shade(many, [(0, 100)] * many), False)
            self.assertIs(is_shade(many, ([0, 100],) * many), False)
            self.assertIs(is_shade(many, ((0, 100, 100),) * many), False)
            self.assertIs(is_shade(many, ((False, 100),) + ((0, 100),) * (many - 1)), False)
            self.assertIs(is_shade(many, ((0, 100),) * (many - 1) + ((0, True),)), False)


class Far(unittest.TestCase):
    def test_no_measures_at_all(self):
        for many in MANYS:
            self.assertEqual(far(many, SHADES[many], ((0, 1),) * many), (0, 1))
            self.assertEqual(far(many, ((100, 100),) + ((0, 0),) * (many - 1), ((0, 1),) * many), (0, 1))

    def test_within(self):
        self.assertEqual(far(2, ((30, 60), (40, 70)), ((1, 1), (1, 1))), (0, 1))
        self.assertEqual(far(4, SHADES[4], ((5, 3),) * 4), (0, 1))
        self.assertEqual(far(3, ((0, 100),) * 3, ((1, 7), (0, 1), (0, 1))), (0, 1))

    def test_just_at_a_low_and_just_at_a_high(self):
        self.assertEqual(far(2, ((30, 60), (40, 70)), ((3, 1), (7, 1))), (0, 1))
        self.assertEqual(far(2, ((30, 100), (0, 100)), ((3, 10), (7, 10))), (0, 1))
        self.assertEqual(far(2, ((0, 100), (0, 70)), ((3, 7), (1, 1))), (0, 1))
        self.assertEqual(far(2, ((30, 100), (0, 100)), ((299, 1000), (701, 1000))), (1, 10))
        self.assertEqual(far(2, ((0, 100), (0, 70)), ((299, 1000), (701, 1000))), (1, 10))

    def test_beyond_a_low(self):
        self.assertEqual(far(2, ((30, 60), (40, 70)), ((2, 1), (8, 1))), (100, 1))
        self.assertEqual(far(2, ((50, 100), (0, 50)), ((1, 3), (2, 3))), (50, 3))
        self.assertEqual(far(3, ((40, 100), (0, 100), (0, 100)), ((1, 1), (1, 1), (1, 1))), (20, 1))
        self.assertEqual(far(3, ((0, 100), (0, 100), (40, 100)), ((1, 1), (1, 1), (0, 1))), (80, 1))

    def test_beyond_a_high(self):
        self.assertEqual(far(3, ((10, 20), (30, 50), (0, 100)), ((1, 2), (1, 3), (1, 6))), (30, 1))
        self.assertEqual(far(3, ((0, 100), (0, 100), (0, 30)), ((1, 1), (1, 1), (1, 1))), (10, 1))
        self.assertEqual(far(4, ((0, 0), (0, 100), (0, 100), (0, 100)), ((5, 2), (0, 1), (0, 1), (0, 1))), (250, 1))

    def test_the_greatest_of_several(self):
        self.assertEqual(far(3, ((20, 30), (10, 30), (40, 60)), ((1, 1), (0, 1), (1, 1))), (40, 1))
        self.assertEqual(far(3, ((20, 60), (30, 30), (40, 60)), ((1, 1), (0, 1), (1, 1))), (60, 1))
        self.assertEqual(far(3, ((90, 100), (0, 5), (0, 5)), ((8, 1), (1, 1), (1, 1))), (100, 1))

    def test_great_bottoms(self):
        bottom = 10 ** 400 + 1
        self.assertEqual(far(2, ((0, 0), (100, 100)), ((1, bottom), (0, 1))), (100, bottom))
        self.assertEqual(far(2, ((0, 100), (0, 50)), ((1, 1), (bottom + 1, bottom))), (50, bottom))
        for many in MANYS:
            stuffs = tuple((3 ** 40 * place + 1, GREAT + place * 2) for place in range(many))
            stuffs = tuple((Fraction(*stuff).numerator, Fraction(*stuff).denominator) for stuff in stuffs)
            self.assertEqual(far(many, SHADES[many], stuffs), far_as_told(SHADES[many], stuffs))

    def test_many_mixtures(self):
        amounts = ((0, 1), (1, 1), (1, 3), (5, 2), (7, 10))
        shades = {
            2: [((0, 50), (50, 100)), ((33, 33), (67, 67)), ((0, 100), (0, 100))],
            3: [((0, 50), (50, 100), (0, 7)), ((33, 34), (33, 34), (0, 100))],
            4: [((10, 40), (0, 0), (20, 100), (5, 50))],
        }
        for many in MANYS:
            for shade in shades[many] + [SHADES[many]]:
                for stuffs in itertools.product(amounts, repeat=many):
                    self.assertEqual(far(many, shade, stuffs), far_as_told(shade, stuffs))

    def test_what_was_told_may_be_handed_in(self):
        once = far(2, SHADES[2], ((1, GREAT), (7, 3)))
        self.assertEqual(far(2, SHADES[2], (once, once)), (0, 1))


class FarRefused(unittest.TestCase):
    def test_no_shade(self):
        for many in MANYS:
            for shade in things():
                if not shade_as_told(many, shade):
                    for stuffs in (STUFFS[many], None, [], ((0, 1),) * 5, ((-1, 1),) * many):
                        with self.assertRaises(NoShade):
                            far(many, shade, stuffs)

    def test_a_shade_of_another_number(self):
        for many, other in itertools.permutations(MANYS, 2):
            with self.assertRaises(NoShade):
                far(many, SHADES[other], STUFFS[many])

    def test_no_stuffs(self):
        for many in MANYS:
            for stuffs in things():
                self.check(many, stuffs)
            for place in range(many):
                for thing in things():
                    self.check(many, put(STUFFS[many], place, thing))
                    self.check(many, put(STUFFS[many], place, (thing, 1)))
                    self.check(many, put(STUFFS[many], place, (1, thing)))

    def check(self, many, stuffs):
        if stuffs_as_told(many, stuffs):
            self.assertEqual(far(many, SHADES[many], stuffs), far_as_told(SHADES[many], stuffs))
        else:
            with self.assertRaises(NoStuffs):
                far(many, SHADES[many], stuffs)

    def test_no_stuffs_by_hand(self):
        good = ((1, 1), (1, 2))
        wrong = [
            list(good), good[:1], good + ((0, 1),), (), None, 1, "ab",
            ((-1, 2), (1, 1)), ((1, 1), (-1, GREAT)), ((2, 4), (1, 1)), ((0, 2), (1, 1)), ((1, 0), (1, 1)),
            ((1, -1), (1, 1)), ((True, 1), (1, 1)), ((1, True), (1, 1)), (1, 1), (0, 0), ([1, 1], (1, 1)), ((1, 1), None),
        ]
        # Of 3/2 measures 100 hundredths are of the first, and its HIGH allows 90.
        self.assertEqual(far(2, SHADES[2], good), (10, 1))
        for stuffs in wrong:
            with self.assertRaises(NoStuffs):
                far(2, SHADES[2], stuffs)


class Unchanged(unittest.TestCase):
    def test_nothing_handed_in_is_changed(self):
        inner = [[0, 100], {"a": [1]}, ([1, 2], {1: [2]})]
        ahead = copy.deepcopy(inner)
        for many in MANYS:
            for thing in (inner, tuple(inner), (inner,) * many, tuple(inner)[:2] * 2):
                is_parts(many, thing)
                is_shade(many, thing)
                self.assertRaises(NoShade, far, many, thing, inner)
                self.assertRaises(NoStuffs, far, many, SHADES[many], thing)
                self.assertRaises(NoMany, far, thing, thing, thing)
                self.assertRaises(NoMany, is_parts, thing, thing)
                self.assertRaises(NoMany, is_shade, thing, thing)
        self.assertEqual(inner, ahead)


if __name__ == "__main__":
    unittest.main()
