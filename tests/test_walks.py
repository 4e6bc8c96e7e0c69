"""What stands: points 2, 3, 8 and 9, the interface's row `walks`."""

import copy
import unittest
from fractions import Fraction

from tests.model import MANYS, failure_as_told, some_book, some_standing_book, stands_as_told
from tests.things import NO_MANYS, deep, put, things, whole
from vatmatch.books import is_book
from vatmatch.errors import Fails, NoBook, NoHour, NoMany
from vatmatch.walks import fails_at, stands_at

ANY = ((0, 100), (0, 100))
RED = ("comes", "red", "madder", (1, 0), 10)
RUST = ("comes", "rust", "madder", (3, 1), 5)
BLUE = ("comes", "blue", "woad", (0, 1), 20)
VAT = ("vat", "tub", 12)
TANK = ("vat", "tank", 100)
BAD_HOURS = [-1, 10000, True, False, None, "1", "", b"1", [], [1], (1,), {}, {1: 1}, len, deep(1, 12)]


def book(*deeds):
    """The deeds at the hours 10, 20, 30 and so on."""
    return tuple((10 * at, deed) for at, deed in enumerate(deeds, 1))


def failing(*deeds):
    """Where the book of these deeds fails; the tests below have the failing deed last."""
    return fails_at(2, book(*deeds))


class FailsBy(unittest.TestCase):
    def check(self, word, *deeds):
        self.assertEqual(failing(*deeds), (10 * len(deeds), word))
        self.assertIsNone(failing(*deeds[:-1]))
        with self.assertRaises(Fails) as caught:
            stands_at(2, book(*deeds), 0)
        self.assertEqual((caught.exception.hour, caught.exception.word), (10 * len(deeds), word))

    def stands(self, *deeds):
        self.assertIsNone(failing(*deeds))

    def test_twice(self):
        ahead = [RED, VAT, ("weigh", "red", "tub", 8), ("keep", "tub", "jar", 2), ("dip", "tub", "silk", 1, ANY)]
        self.stands(*ahead)
        for name in ("red", "tub", "jar", "silk"):
            self.check("twice", *ahead, ("comes", name, "new", (1, 1), 1))
            self.check("twice", *ahead, ("vat", name, 5))
            self.check("twice", *ahead, ("keep", "tub", name, 1))
            self.check("twice", *ahead, ("dip", "tub", name, 1, ANY))

    def test_twice_of_what_is_empty(self):
        ahead = [RED, VAT, ("weigh", "red", "tub", 10), ("keep", "tub", "jar", 10), ("drain", "jar", 10)]
        self.stands(*ahead)
        for name in ("red", "tub", "jar"):
            self.check("twice", *ahead, ("comes", name, "new", (1, 1), 1))
            self.check("twice", *ahead, ("vat", name, 5))

    def test_a_stock_is_no_holder(self):
        self.stands(RED, ("vat", "madder", 5), ("weigh", "red", "madder", 1))
        self.stands(RED, ("comes", "madder", "red", (1, 0), 4), VAT, ("draw", "red", "tub", 4))
        self.check("less", RED, ("comes", "madder", "red", (1, 0), 4), VAT, ("draw", "red", "tub", 5))
        self.stands(("comes", "a", "a", (1, 0), 4), VAT, ("draw", "a", "tub", 2), ("weigh", "a", "tub", 2))

    def test_nothing_of_weigh(self):
        self.check("nothing", RED, VAT, ("weigh", "madder", "tub", 1))
        self.check("nothing", RED, VAT, ("weigh", "none", "tub", 1))
        self.check("nothing", RED, VAT, ("weigh", "tub", "tub", 1))
        self.check("nothing", RED, VAT, ("weigh", "red", "none", 1))
        self.check("nothing", RED, VAT, ("weigh", "red", "red", 1))
        self.check("nothing", RED, BLUE, VAT, ("weigh", "red", "blue", 1))
        full = [RED, VAT, ("weigh", "red", "tub", 8), ("keep", "tub", "jar", 2), ("dip", "tub", "silk", 1, ANY), TANK]
        for name in ("tub", "jar", "silk"):
            self.check("nothing", *full, ("weigh", name, "tank", 1))
        for name in ("jar", "silk"):
            self.check("nothing", *full, ("weigh", "red", name, 1))

    def test_nothing_of_draw(self):
        self.check("nothing", RED, VAT, ("draw", "red", "tub", 1))
        self.check("nothing", RED, VAT, ("draw", "woad", "tub", 1))
        self.check("nothing", RED, VAT, ("draw", "tub", "tub", 1))
        self.check("nothing", RED, VAT, ("draw", "madder", "none", 1))
        self.check("nothing", RED, VAT, ("draw", "madder", "red", 1))
        self.check("nothing", VAT, ("draw", "madder", "tub", 1))

    def test_nothing_of_pour(self):
        full = [RED, VAT, ("weigh", "red", "tub", 8), ("keep", "tub", "jar", 2), ("dip", "tub", "silk", 1, ANY), TANK]
        self.stands(*full, ("pour", "tub", "tank", 1), ("pour", "jar", "tank", 1), ("pour", "tank", "tub", 1))
        for name in ("red", "silk", "madder", "none"):
            self.check("nothing", *full, ("pour", name, "tank", 1))
        for name in ("red", "silk", "madder", "none", "jar"):
            self.check("nothing", *full, ("pour", "tub", name, 1))

    def test_nothing_of_keep_dip_drain(self):
        full = [RED, VAT, ("weigh", "red", "tub", 8), ("keep", "tub", "jar", 2), ("dip", "tub", "silk", 1, ANY)]
        for name in ("red", "jar", "silk", "madder", "none", "new"):
            self.check("nothing", *full, ("keep", name, "new", 1))
            self.check("nothing", *full, ("dip", name, "new", 1, ANY))
        for name in ("red", "silk", "madder", "none"):
            self.check("nothing", *full, ("drain", name, 1))
        self.stands(*full, ("drain", "jar", 2), ("drain", "tub", 5))

    def test_less(self):
        full = [RED, VAT, ("weigh", "red", "tub", 8), ("keep", "tub", "jar", 2), TANK]
        for one, more in (
            (("weigh", "red", "tank", 2), ("weigh", "red", "tank", 3)),
            (("draw", "madder", "tank", 2), ("draw", "madder", "tank", 3)),
            (("pour", "tub", "tank", 6), ("pour", "tub", "tank", 7)),
            (("pour", "jar", "tank", 2), ("pour", "jar", "tank", 3)),
            (("keep", "tub", "new", 6), ("keep", "tub", "new", 7)),
            (("dip", "tub", "new", 6, ANY), ("dip", "tub", "new", 7, ANY)),
            (("drain", "tub", 6), ("drain", "tub", 7)),
            (("drain", "jar", 2), ("drain", "jar", 3)),
        ):
            self.stands(*full, one)
            self.check("less", *full, more)

    def test_less_of_what_is_empty(self):
        self.check("less", VAT, ("drain", "tub", 1))
        self.check("less", VAT, ("keep", "tub", "jar", 1))
        self.check("less", VAT, ("dip", "tub", "silk", 1, ANY))
        self.check("less", VAT, TANK, ("pour", "tub", "tank", 1))
        self.check("less", RED, VAT, ("weigh", "red", "tub", 10), ("draw", "madder", "tub", 1))
        self.check("less", RED, VAT, ("weigh", "red", "tub", 10), ("weigh", "red", "tub", 1))

    def test_draw_over_several_lots(self):
        self.stands(RED, RUST, TANK, ("draw", "madder", "tank", 15))
        self.check("less", RED, RUST, TANK, ("draw", "madder", "tank", 16))
        self.check("less", RED, BLUE, RUST, TANK, ("draw", "madder", "tank", 16))
        self.stands(RED, TANK, ("draw", "madder", "tank", 10), RUST, ("draw", "madder", "tank", 5))
        self.check("less", RED, TANK, ("draw", "madder", "tank", 10), RUST, ("draw", "madder", "tank", 6))
        self.check("less", RED, RUST, TANK, ("weigh", "rust", "tank", 1), ("draw", "madder", "tank", 15))
        self.check("less", RED, TANK, ("draw", "madder", "tank", 11))

    def test_brim(self):
        for fill in (("weigh", "red", "tub"), ("draw", "madder", "tub")):
            self.stands(RED, RUST, VAT, ("weigh", "rust", "tub", 3), (*fill, 9))
            self.check("brim", RED, RUST, VAT, ("weigh", "rust", "tub", 3), (*fill, 10))
        ahead = [BLUE, VAT, TANK, ("weigh", "blue", "tank", 20), ("keep", "tank", "jar", 7)]
        self.stands(*ahead, ("pour", "tank", "tub", 12))
        self.check("brim", *ahead, ("pour", "tank", "tub", 13))
        self.stands(*ahead, ("pour", "tank", "tub", 5), ("pour", "jar", "tub", 7))
        self.check("brim", *ahead, ("pour", "tank", "tub", 6), ("pour", "jar", "tub", 7))

    def test_a_vat_poured_empty_and_filled_again(self):
        ahead = [BLUE, VAT, TANK, ("weigh", "blue", "tub", 12), ("pour", "tub", "tank", 12)]
        self.stands(*ahead, ("pour", "tank", "tub", 12))
        self.stands(*ahead, ("weigh", "blue", "tub", 8))
        self.check("brim", *ahead, ("weigh", "blue", "tub", 8), ("pour", "tank", "tub", 5))
        self.check("less", *ahead, ("drain", "tub", 1))

    def test_the_first_word_in_the_told_order(self):
        full = [RED, VAT, ("weigh", "red", "tub", 8), ("keep", "tub", "jar", 2)]
        self.check("twice", *full, ("keep", "none", "jar", 1))
        self.check("twice", *full, ("keep", "tub", "jar", 99))
        self.check("twice", *full, ("dip", "none", "jar", 99, ANY))
        self.check("twice", *full, ("keep", "tub", "tub", 1))
        self.check("nothing", *full, ("weigh", "red", "none", 99))
        self.check("nothing", *full, ("weigh", "none", "tub", 99))
        self.check("nothing", *full, ("draw", "none", "tub", 99))
        self.check("nothing", *full, ("pour", "none", "tub", 99))
        self.check("less", *full, ("weigh", "red", "tub", 99))
        self.check("less", *full, ("draw", "madder", "tub", 99))
        self.check("less", *full, ("pour", "jar", "tub", 99))
        self.check("brim", *full, TANK, ("weigh", "red", "tank", 2), BLUE, ("weigh", "blue", "tub", 7))

    def test_only_the_first_that_fails(self):
        wrong = ("drain", "none", 1)
        self.assertEqual(failing(wrong, RED, RED), (10, "nothing"))
        self.assertEqual(failing(RED, RED, wrong), (20, "twice"))
        self.assertEqual(failing(RED, VAT, ("weigh", "red", "tub", 11), wrong, RED), (30, "less"))
        # Had the failing deed been done, or its lot come, the next would do as well.
        self.assertEqual(failing(("draw", "woad", "tub", 1), BLUE, VAT), (10, "nothing"))

    def test_a_name_that_comes_only_later(self):
        self.assertEqual(failing(("vat", "tub", 5), ("weigh", "red", "tub", 1), RED), (20, "nothing"))
        self.assertEqual(failing(RED, ("weigh", "red", "tub", 1), VAT), (20, "nothing"))

    def test_a_book_that_stands(self):
        self.assertIsNone(fails_at(2, ()))
        self.assertIsNone(failing(RED))
        self.assertIsNone(failing(RED, RUST, BLUE, VAT, TANK))

    def test_held_against_the_model(self):
        words = set()
        for many in MANYS:
            for seed in range(40):
                rows = some_book(many, seed)
                answer = fails_at(many, rows)
                self.assertEqual(answer, failure_as_told(rows), rows)
                self.assertEqual(fails_at(many, rows), answer)
                words.add(answer and answer[1])
                self.assertIsNone(fails_at(many, some_standing_book(many, seed, 20)))
        self.assertEqual(words, {None, "twice", "nothing", "less", "brim"})


# Reckoned by hand: the tub has 6 of red and 3 of blue, so two parts and one of each measure in it.
WORKED = (
    (10, RED),
    (20, RUST),
    (30, BLUE),
    (40, VAT),
    (50, TANK),
    (60, ("weigh", "red", "tub", 6)),
    (70, ("weigh", "blue", "tub", 3)),
    (80, ("pour", "tub", "tank", 4)),
    (90, ("draw", "madder", "tank", 6)),
    (100, ("keep", "tank", "jar", 5)),
    (110, ("dip", "tub", "silk", 5, ANY)),
    (120, ("drain", "tank", 1)),
    (130, ("pour", "jar", "tub", 2)),
    (140, ("drain", "jar", 3)),
)


def lines(rows, hour):
    """What stands, as a dict by names, GONE under no name."""
    holders, gone = stands_at(2, rows, hour)
    answer = {name: (word, measures, content) for name, word, measures, content in holders}
    answer[""] = gone
    return answer


class StandsAt(unittest.TestCase):
    def test_nothing_at_first(self):
        for hour in (0, 1, 9999):
            self.assertEqual(stands_at(2, (), hour), ((), ()))
        self.assertEqual(stands_at(2, WORKED, 0), ((), ()))
        self.assertEqual(stands_at(2, WORKED, 9), ((), ()))

    def test_of_a_deed_and_between_two(self):
        red = (("red", "lot", 10, (("red", (10, 1)),)),)
        for hour in (10, 11, 19):
            self.assertEqual(stands_at(2, WORKED, hour), (red, ()))
        both = red + (("rust", "lot", 5, (("rust", (5, 1)),)),)
        self.assertEqual(stands_at(2, WORKED, 20), (both, ()))
        self.assertEqual(stands_at(2, ((0, RED),), 0), (red, ()))
        self.assertEqual(stands_at(2, ((9999, RED),), 9998), ((), ()))
        self.assertEqual(stands_at(2, ((9999, RED),), 9999), (red, ()))

    def test_several_lots_in_a_vat(self):
        there = lines(WORKED, 70)
        self.assertEqual(there["tub"], ("vat", 9, (("blue", (3, 1)), ("red", (6, 1)))))
        self.assertEqual(there["tank"], ("vat", 0, ()))
        self.assertEqual(there["red"], ("lot", 4, (("red", (4, 1)),)))
        self.assertEqual(there["blue"], ("lot", 17, (("blue", (17, 1)),)))

    def test_poured_on(self):
        there = lines(WORKED, 80)
        self.assertEqual(there["tub"], ("vat", 5, (("blue", (5, 3)), ("red", (10, 3)))))
        self.assertEqual(there["tank"], ("vat", 4, (("blue", (4, 3)), ("red", (8, 3)))))

    def test_drawn_in_the_order_in_which_the_lots_came(self):
        there = lines(WORKED, 90)
        self.assertEqual(there["red"], ("lot", 0, ()))
        self.assertEqual(there["rust"], ("lot", 3, (("rust", (3, 1)),)))
        self.assertEqual(there["tank"], ("vat", 10, (("blue", (4, 3)), ("red", (20, 3)), ("rust", (2, 1)))))
        turned = ((1, RUST), (2, RED), (3, TANK), (4, ("draw", "madder", "tank", 6)))
        there = lines(turned, 4)
        self.assertEqual(there["rust"], ("lot", 0, ()))
        self.assertEqual(there["tank"], ("vat", 6, (("red", (1, 1)), ("rust", (5, 1)))))

    def test_draw_out_of_the_first_lot_alone(self):
        there = lines(((1, RED), (2, RUST), (3, TANK), (4, ("draw", "madder", "tank", 10))), 4)
        self.assertEqual(there["red"], ("lot", 0, ()))
        self.assertEqual(there["rust"][1], 5)
        self.assertEqual(there["tank"], ("vat", 10, (("red", (10, 1)),)))

    def test_kept_and_dipped(self):
        there = lines(WORKED, 110)
        half = (("blue", (2, 3)), ("red", (10, 3)), ("rust", (1, 1)))
        self.assertEqual(there["jar"], ("jar", 5, half))
        self.assertEqual(there["tank"], ("vat", 5, half))
        self.assertEqual(there["silk"], ("cloth", 5, (("blue", (5, 3)), ("red", (10, 3)))))
        self.assertEqual(there["tub"], ("vat", 0, ()))
        self.assertNotIn("silk", lines(WORKED, 109))
        self.assertNotIn("jar", lines(WORKED, 99))

    def test_drained_in_part_and_wholly(self):
        there = lines(WORKED, 120)
        self.assertEqual(there[""], (("blue", (2, 15)), ("red", (2, 3)), ("rust", (1, 5))))
        self.assertEqual(there["tank"], ("vat", 4, (("blue", (8, 15)), ("red", (8, 3)), ("rust", (4, 5)))))
        there = lines(WORKED, 140)
        self.assertEqual(there["jar"], ("jar", 0, ()))
        self.assertEqual(there["tub"], ("vat", 2, (("blue", (4, 15)), ("red", (4, 3)), ("rust", (2, 5)))))
        self.assertEqual(there[""], (("blue", (8, 15)), ("red", (8, 3)), ("rust", (4, 5))))

    def test_behind_the_last(self):
        last = stands_at(2, WORKED, 140)
        for hour in (141, 5000, 9999):
            self.assertEqual(stands_at(2, WORKED, hour), last)
        self.assertEqual([row[0] for row in last[0]], ["blue", "jar", "red", "rust", "silk", "tank", "tub"])
        self.assertEqual([row[1] for row in last[0]], ["lot", "jar", "lot", "lot", "cloth", "vat", "vat"])

    def test_held_against_the_model(self):
        for many in MANYS:
            for seed in range(25):
                rows = some_standing_book(many, seed, 30)
                hours = [hour for hour, deed in rows]
                for hour in (0, hours[0], hours[len(hours) // 2], hours[len(hours) // 2] + 1, hours[-1], 9999):
                    self.assertEqual(stands_at(many, rows, hour), stands_as_told(rows, hour), (rows, hour))


def amounts(answer):
    """Of each lot all that there is of it, over all holders and GONE."""
    holders, gone = answer
    together = {}
    for content in [row[3] for row in holders] + [gone]:
        for lot, amount in content:
            together[lot] = together.get(lot, 0) + Fraction(*amount)
    return together


class Promise(unittest.TestCase):
    def test_stuff_is_neither_made_nor_lost(self):
        for many in MANYS:
            for seed in range(15):
                rows = some_standing_book(many, seed, 30)
                for hour, deed in rows:
                    came = {row[1]: row[4] for at, row in rows if at <= hour and row[0] == "comes"}
                    self.assertEqual(amounts(stands_at(many, rows, hour)), came)

    def test_measures_are_the_amounts_together(self):
        for many in MANYS:
            for seed in range(15):
                rows = some_standing_book(many, seed, 30)
                holders, gone = stands_at(many, rows, 9999)
                for name, word, measures, content in holders:
                    self.assertTrue(whole(measures))
                    self.assertEqual(sum(Fraction(*amount) for lot, amount in content), measures)
                for content in [row[3] for row in holders] + [gone]:
                    self.assertEqual(list(content), sorted(content))
                    self.assertEqual(len(content), len({lot for lot, amount in content}))
                    self.assertTrue(all(amount[0] > 0 for lot, amount in content))
                self.assertEqual(list(holders), sorted(holders))

    def test_rows_are_tuples(self):
        holders, gone = stands_at(2, WORKED, 140)
        for row in [holders, gone, *holders, *[row[3] for row in holders], *gone]:
            self.assertIs(type(row), tuple)

    def test_other_parts_move_no_amount(self):
        for many in MANYS:
            for seed in range(15):
                rows = some_standing_book(many, seed, 30)
                others = tuple(
                    (hour, put(deed, 3, (0,) * (many - 1) + (5,)) if deed[0] == "comes" else deed) for hour, deed in rows
                )
                self.assertEqual(stands_at(many, rows, 9999), stands_at(many, others, 9999))


class Refused(unittest.TestCase):
    fails = ((5, RED), (7, RED))

    def test_no_many_ahead_of_all(self):
        for many in NO_MANYS:
            for rows in (WORKED, self.fails, None, []):
                self.assertRaises(NoMany, fails_at, many, rows)
                for hour in (0, -1, None):
                    self.assertRaises(NoMany, stands_at, many, rows, hour)

    def test_no_book(self):
        for many in MANYS:
            for rows in things():
                if rows != ():
                    self.assertFalse(is_book(many, rows))
                    self.assertRaises(NoBook, fails_at, many, rows)
                    for hour in (0, -1, None):
                        self.assertRaises(NoBook, stands_at, many, rows, hour)

    def test_no_book_ahead_of_fails(self):
        for rows in ([*self.fails], self.fails + ((6, RED),), self.fails + ((8, None),), self.fails[:1] + self.fails[:1]):
            self.assertRaises(NoBook, fails_at, 2, rows)
            self.assertRaises(NoBook, stands_at, 2, rows, -1)
        self.assertRaises(NoBook, fails_at, 3, WORKED)
        self.assertRaises(NoBook, stands_at, 3, WORKED, 0)

    def test_fails_ahead_of_no_hour(self):
        for hour in [0, 4, 5, 6, 7, 9999] + BAD_HOURS:
            with self.assertRaises(Fails) as caught:
                stands_at(2, self.fails, hour)
            self.assertEqual((caught.exception.hour, caught.exception.word), (7, "twice"))

    def test_a_book_that_fails_only_behind_the_hour(self):
        rows = WORKED + ((200, ("drain", "tub", 3)),)
        self.assertEqual(fails_at(2, rows), (200, "less"))
        for hour in (0, 140, 199, 200):
            with self.assertRaises(Fails) as caught:
                stands_at(2, rows, hour)
            self.assertEqual((caught.exception.hour, caught.exception.word), (200, "less"))

    def test_no_hour(self):
        for hour in BAD_HOURS:
            self.assertRaises(NoHour, stands_at, 2, WORKED, hour)
            self.assertRaises(NoHour, stands_at, 2, (), hour)
        for hour in things():
            if not (whole(hour) and 0 <= hour <= 9999):
                self.assertRaises(NoHour, stands_at, 2, WORKED, hour)


class Unchanged(unittest.TestCase):
    def test_nothing_handed_in_is_changed(self):
        rows = [[1, ["vat", "a", 1]], {"a": [1]}]
        ahead = copy.deepcopy(rows)
        for thing in (rows, tuple(rows), ((1, rows),)):
            self.assertRaises(NoBook, fails_at, 2, thing)
            self.assertRaises(NoBook, stands_at, 2, thing, rows)
            self.assertRaises(NoHour, stands_at, 2, WORKED, thing)
            self.assertRaises(NoMany, fails_at, thing, thing)
        self.assertEqual(rows, ahead)

    def test_asked_twice_the_same_is_told(self):
        for hour in (0, 75, 140):
            self.assertEqual(stands_at(2, WORKED, hour), stands_at(2, WORKED, hour))
        self.assertEqual(stands_at(2, WORKED, 75), stands_at(2, WORKED[:7], 9999))


if __name__ == "__main__":
    unittest.main()
