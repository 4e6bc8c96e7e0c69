"""What lies where: points 2, 3 and 10, the interface's row `tracing`."""

import copy
import math
import unittest
from fractions import Fraction

from tests.model import (
    MANYS, mix_as_told, shelf_as_told, some_standing_book, stuffs_as_reckoned, where_as_told,
)
from tests.things import GREAT, NO_MANYS, deep, things, whole
from vatmatch.errors import Fails, NoBook, NoHour, NoMany, NoName
from vatmatch.tracing import mix_of, shelf_at, stuffs_of, where_is
from vatmatch.walks import stands_at

ANY = ((0, 100), (0, 100))

# Red is 2 to 4, so a third and two thirds; blue is all of the second stuff; rust comes late.
WORKED = (
    (10, ("comes", "red", "madder", (2, 4), 12)),
    (20, ("comes", "blue", "woad", (0, 7), 9)),
    (30, ("vat", "tub", 50)),
    (40, ("weigh", "red", "tub", 6)),
    (50, ("weigh", "blue", "tub", 3)),
    (60, ("keep", "tub", "jar", 3)),
    (70, ("dip", "tub", "silk", 2, ANY)),
    (80, ("drain", "tub", 1)),
    (90, ("comes", "rust", "madder", (99, 33), 4)),
    (100, ("drain", "jar", 3)),
    (110, ("draw", "madder", "tub", 8)),
    (120, ("draw", "woad", "tub", 6)),
    (130, ("drain", "tub", 17)),
)
FAILING = ((1, ("vat", "a", 1)), (2, ("vat", "a", 1)))
NAMING = (stuffs_of, mix_of, where_is)
BAD_HOURS = [-1, 10000, True, None, "1", [], (1,), {}]


class Stuffs(unittest.TestCase):
    def test_of_each_holder(self):
        self.assertEqual(stuffs_of(2, WORKED, 10, "red"), ((4, 1), (8, 1)))
        self.assertEqual(stuffs_of(2, WORKED, 70, "red"), ((2, 1), (4, 1)))
        self.assertEqual(stuffs_of(2, WORKED, 70, "blue"), ((0, 1), (6, 1)))
        self.assertEqual(stuffs_of(2, WORKED, 50, "tub"), ((2, 1), (7, 1)))
        self.assertEqual(stuffs_of(2, WORKED, 60, "jar"), ((2, 3), (7, 3)))
        self.assertEqual(stuffs_of(2, WORKED, 70, "silk"), ((4, 9), (14, 9)))
        self.assertEqual(stuffs_of(2, WORKED, 9999, "silk"), ((4, 9), (14, 9)))
        self.assertEqual(stuffs_of(2, WORKED, 90, "rust"), ((3, 1), (1, 1)))

    def test_where_nothing_is(self):
        self.assertEqual(stuffs_of(2, WORKED, 30, "tub"), ((0, 1), (0, 1)))
        self.assertEqual(stuffs_of(2, WORKED, 100, "jar"), ((0, 1), (0, 1)))
        self.assertEqual(stuffs_of(2, WORKED, 110, "red"), ((0, 1), (0, 1)))
        for many in MANYS:
            self.assertEqual(stuffs_of(many, ((0, ("vat", "a", 1)),), 0, "a"), ((0, 1),) * many)

    def test_together_they_are_the_measures(self):
        for many in MANYS:
            for seed in range(15):
                rows = some_standing_book(many, seed, 25)
                for name, word, measures, content in stands_at(many, rows, 9999)[0]:
                    stuffs = stuffs_of(many, rows, 9999, name)
                    self.assertIs(type(stuffs), tuple)
                    self.assertEqual(sum(Fraction(*stuff) for stuff in stuffs), measures)
                    self.assertEqual(stuffs, stuffs_as_reckoned(many, rows, 9999, name))


class Mix(unittest.TestCase):
    def test_of_each_holder(self):
        self.assertEqual(mix_of(2, WORKED, 10, "red"), (12, (1, 2)))
        self.assertEqual(mix_of(2, WORKED, 20, "blue"), (9, (0, 1)))
        self.assertEqual(mix_of(2, WORKED, 40, "tub"), (6, (1, 2)))
        self.assertEqual(mix_of(2, WORKED, 50, "tub"), (9, (2, 7)))
        self.assertEqual(mix_of(2, WORKED, 60, "jar"), (3, (2, 7)))
        self.assertEqual(mix_of(2, WORKED, 70, "silk"), (2, (2, 7)))
        self.assertEqual(mix_of(2, WORKED, 90, "rust"), (4, (3, 1)))
        self.assertEqual(mix_of(2, WORKED, 80, "tub"), (3, (2, 7)))
        # 3 of (2, 7), 6 of red, 2 of rust: 2/3 + 2 + 3/2 of the first stuff, 7/3 + 4 + 1/2 of the second.
        self.assertEqual(mix_of(2, WORKED, 110, "tub"), (11, (25, 41)))

    def test_where_nothing_is(self):
        self.assertEqual(mix_of(2, WORKED, 30, "tub"), (0, (0, 0)))
        self.assertEqual(mix_of(2, WORKED, 100, "jar"), (0, (0, 0)))
        self.assertEqual(mix_of(2, WORKED, 130, "tub"), (0, (0, 0)))
        self.assertEqual(mix_of(2, WORKED, 130, "red"), (0, (0, 0)))

    def test_without_a_common_divisor(self):
        for parts, least in (((99, 99), (1, 1)), ((0, 50), (0, 1)), ((64, 48), (4, 3)), ((7, 0), (1, 0)), ((3, 5), (3, 5))):
            self.assertEqual(mix_of(2, ((0, ("comes", "a", "b", parts, 6)),), 0, "a"), (6, least))
        self.assertEqual(mix_of(4, ((0, ("comes", "a", "b", (6, 0, 9, 0), 6)),), 0, "a"), (6, (2, 0, 3, 0)))
        for many in MANYS:
            for seed in range(15):
                rows = some_standing_book(many, seed, 25)
                for name, word, measures, content in stands_at(many, rows, 9999)[0]:
                    mix = mix_of(many, rows, 9999, name)
                    self.assertEqual(mix, mix_as_told(many, rows, 9999, name))
                    self.assertEqual(mix[0], measures)
                    self.assertTrue(all(whole(part) for part in mix[1]) and whole(mix[0]))
                    self.assertEqual(math.gcd(*mix[1]), 1 if measures else 0)


class Where(unittest.TestCase):
    def test_in_itself(self):
        self.assertEqual(where_is(2, WORKED, 10, "red"), (("red", (12, 1)),))
        self.assertEqual(where_is(2, WORKED, 90, "rust"), (("rust", (4, 1)),))

    def test_spread_over_several_and_drained_in_part(self):
        self.assertEqual(where_is(2, WORKED, 60, "red"), (("jar", (2, 1)), ("red", (6, 1)), ("tub", (4, 1))))
        self.assertEqual(
            where_is(2, WORKED, 80, "red"),
            (("", (2, 3)), ("jar", (2, 1)), ("red", (6, 1)), ("silk", (4, 3)), ("tub", (2, 1))),
        )
        self.assertEqual(
            where_is(2, WORKED, 100, "blue"),
            (("", (4, 3)), ("blue", (6, 1)), ("silk", (2, 3)), ("tub", (1, 1))),
        )

    def test_used_up(self):
        self.assertEqual(where_is(2, WORKED, 130, "blue"), (("", (25, 3)), ("silk", (2, 3))))
        self.assertEqual(where_is(2, WORKED, 130, "rust"), (("", (2, 1)), ("rust", (2, 1))))
        self.assertEqual(where_is(2, WORKED, 130, "red"), (("", (32, 3)), ("silk", (4, 3))))
        gone = ((0, ("comes", "a", "s", (1, 1), 2)), (1, ("vat", "v", 2)), (2, ("draw", "s", "v", 2)), (3, ("drain", "v", 2)))
        self.assertEqual(where_is(2, gone, 2, "a"), (("v", (2, 1)),))
        self.assertEqual(where_is(2, gone, 3, "a"), (("", (2, 1)),))

    def test_all_of_it_is_somewhere(self):
        for many in MANYS:
            for seed in range(15):
                rows = some_standing_book(many, seed, 25)
                for hour in (rows[len(rows) // 2][0], 9999):
                    for at, deed in rows:
                        if deed[0] == "comes" and at <= hour:
                            spread = where_is(many, rows, hour, deed[1])
                            self.assertEqual(spread, where_as_told(rows, hour, deed[1]))
                            self.assertEqual(list(spread), sorted(spread))
                            self.assertEqual(sum(Fraction(*amount) for name, amount in spread), deed[4])


class Shelf(unittest.TestCase):
    def test_lots_and_jars_in_which_something_is(self):
        self.assertEqual(shelf_at(2, WORKED, 9), ())
        self.assertEqual(shelf_at(2, WORKED, 10), (("red", 12, (1, 2)),))
        self.assertEqual(shelf_at(2, WORKED, 50), (("blue", 6, (0, 1)), ("red", 6, (1, 2))))
        self.assertEqual(
            shelf_at(2, WORKED, 90),
            (("blue", 6, (0, 1)), ("jar", 3, (2, 7)), ("red", 6, (1, 2)), ("rust", 4, (3, 1))),
        )
        self.assertEqual(shelf_at(2, WORKED, 100), (("blue", 6, (0, 1)), ("red", 6, (1, 2)), ("rust", 4, (3, 1))))
        self.assertEqual(shelf_at(2, WORKED, 110), (("blue", 6, (0, 1)), ("rust", 2, (3, 1))))
        self.assertEqual(shelf_at(2, WORKED, 9999), (("rust", 2, (3, 1)),))
        self.assertEqual(shelf_at(3, (), 0), ())

    def test_more_than_four_may_be_on_it(self):
        rows = tuple((at, ("comes", name, "s", (1, 0), at + 1)) for at, name in enumerate("fedcba"))
        self.assertEqual(shelf_at(2, rows, 5), tuple((name, 6 - at, (1, 0)) for at, name in enumerate("abcdef")))

    def test_held_against_the_model(self):
        for many in MANYS:
            for seed in range(15):
                rows = some_standing_book(many, seed, 25)
                for hour in (0, rows[len(rows) // 2][0], 9999):
                    shelf = shelf_at(many, rows, hour)
                    self.assertEqual(shelf, shelf_as_told(many, rows, hour))
                    self.assertTrue(all(type(row) is tuple for row in (shelf, *shelf)))


class PartsMoveStuffsAlone(unittest.TestCase):
    def test_a_lot_with_other_parts(self):
        other = ((10, ("comes", "red", "madder", (1, 0), 12)),) + WORKED[1:]
        self.assertEqual(stuffs_of(2, other, 50, "tub"), ((6, 1), (3, 1)))
        self.assertEqual(mix_of(2, other, 70, "silk"), (2, (2, 1)))
        for hour in (50, 80, 130):
            self.assertEqual(where_is(2, other, hour, "red"), where_is(2, WORKED, hour, "red"))


class Refused(unittest.TestCase):
    def refused(self, refusal, many, rows, hour, name):
        for asked in NAMING:
            self.assertRaises(refusal, asked, many, rows, hour, name)

    def test_in_the_told_order(self):
        names = ["red", "none", None, []]
        for name in names:
            for hour in [50, *BAD_HOURS]:
                for many in NO_MANYS:
                    for rows in (WORKED, FAILING, None):
                        self.refused(NoMany, many, rows, hour, name)
                        self.assertRaises(NoMany, shelf_at, many, rows, hour)
                for rows in (None, [*WORKED], WORKED + FAILING, 1, "book", {}):
                    self.refused(NoBook, 2, rows, hour, name)
                    self.assertRaises(NoBook, shelf_at, 2, rows, hour)
                self.refused(Fails, 2, FAILING, hour, name)
                self.assertRaises(Fails, shelf_at, 2, FAILING, hour)
            for hour in BAD_HOURS:
                self.refused(NoHour, 2, WORKED, hour, name)
                self.assertRaises(NoHour, shelf_at, 2, WORKED, hour)

    def test_fails_tells_hour_and_word(self):
        late = WORKED + ((200, ("drain", "silk", 1)),)
        for asked in NAMING:
            with self.assertRaises(Fails) as caught:
                asked(2, late, 10, "red")
            self.assertEqual((caught.exception.hour, caught.exception.word), (200, "nothing"))
        with self.assertRaises(Fails) as caught:
            shelf_at(2, late, 10)
        self.assertEqual((caught.exception.hour, caught.exception.word), (200, "nothing"))

    def test_no_such_name(self):
        for name in ("madder", "woad", "none", "", "Red", "red ", "madders"):
            self.refused(NoName, 2, WORKED, 9999, name)

    def test_a_name_that_comes_only_later(self):
        self.refused(NoName, 2, WORKED, 0, "red")
        self.refused(NoName, 2, WORKED, 9, "red")
        self.refused(NoName, 2, WORKED, 89, "rust")
        for name, hour in (("tub", 29), ("jar", 59), ("silk", 69)):
            for asked in (stuffs_of, mix_of):
                self.assertRaises(NoName, asked, 2, WORKED, hour, name)
                asked(2, WORKED, hour + 1, name)

    def test_no_lot(self):
        for name in ("tub", "jar", "silk"):
            self.assertRaises(NoName, where_is, 2, WORKED, 9999, name)
            self.assertRaises(NoName, where_is, 2, WORKED, 0, name)

    def test_things_of_any_kind(self):
        for name in [*things(), ["red"], ("red",), {"red": 1}, b"red", deep("red", 12), GREAT]:
            self.refused(NoName, 2, WORKED, 9999, name)


class Unchanged(unittest.TestCase):
    def test_nothing_handed_in_is_changed(self):
        inner = [["red"], {"red": [1]}]
        ahead = copy.deepcopy(inner)
        for thing in (inner, tuple(inner)):
            for asked in NAMING:
                self.assertRaises(NoName, asked, 2, WORKED, 50, thing)
                self.assertRaises(NoHour, asked, 2, WORKED, thing, thing)
                self.assertRaises(NoBook, asked, 2, thing, thing, thing)
                self.assertRaises(NoMany, asked, thing, thing, thing, thing)
        self.assertEqual(inner, ahead)

    def test_asked_twice_the_same_is_told(self):
        for asked in NAMING:
            self.assertEqual(asked(2, WORKED, 110, "red"), asked(2, WORKED, 110, "red"))
        self.assertEqual(shelf_at(2, WORKED, 110), shelf_at(2, WORKED, 110))


if __name__ == "__main__":
    unittest.main()
