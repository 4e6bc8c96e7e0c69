"""What is reached: points 2, 3 and 11, the interface's row `reach`."""

import copy
import random
import unittest

from tests.model import MANYS, failure_as_told, some_book, some_deed, some_standing_book
from tests.things import NO_MANYS, deep, things, whole
from vatmatch.errors import Fails, NoBook, NoHour, NoMany
from vatmatch.reach import reached
from vatmatch.walks import stands_at

ANY = ((0, 100), (0, 100))
COMES = {
    name: ("comes", name, stock, (1, 1), 50)
    for name, stock in (("red", "madder"), ("rust", "madder"), ("ruby", "madder"), ("blue", "woad"))
}
WORDS = ("comes", "vat", "weigh", "draw", "pour", "keep", "dip", "drain")


def book_of(*deeds):
    """A book of these deeds at the hours 10, 20 ..; two vats, tub and vat, are there ahead of them."""
    rows = [(1, ("vat", "tub", 99999)), (2, ("vat", "vat", 99999))]
    return (*rows, *[(10 * at + 10, deed) for at, deed in enumerate(deeds)])


def reached_as_told(book, hour):
    """Point 11, said again."""
    names, came = set(), {}
    for at, deed in book:
        word, one, other = deed[:3]
        of_stock = set(came.get(one, ()))
        if at == hour:
            if word in ("comes", "vat", "drain"):
                names = {one}
            elif word == "draw":
                names = of_stock | {other}
            else:
                names = {one, other}
        if at > hour:
            if word == "draw" and of_stock & names:
                names |= of_stock | {other}
            if word in ("weigh", "pour", "keep", "dip") and one in names:
                names.add(other)
        if word == "comes":
            came.setdefault(other, []).append(one)
    return tuple(sorted(names))


class ByHand(unittest.TestCase):
    def reaches(self, book, hour, *names):
        self.assertIsNone(failure_as_told(book))
        self.assertEqual(reached(2, book, hour), names)

    def test_comes_and_vat(self):
        book = book_of(COMES["red"], ("vat", "keg", 5))
        self.reaches(book, 10, "red")
        self.reaches(book, 20, "keg")
        self.reaches(book, 1, "tub")

    def test_weigh(self):
        self.reaches(book_of(COMES["red"], COMES["rust"], ("weigh", "red", "tub", 5)), 30, "red", "tub")

    def test_draw_reaches_all_lots_that_came_ahead(self):
        book = book_of(COMES["rust"], COMES["red"], COMES["blue"], ("draw", "madder", "tub", 5), COMES["ruby"])
        self.reaches(book, 40, "red", "rust", "tub")
        # A stock of the same name as a lot or vat is none of them.
        book = book_of(("comes", "red", "tub", (1, 1), 50), ("comes", "blue", "red", (1, 1), 50), ("draw", "tub", "vat", 5))
        self.reaches(book, 30, "red", "vat")

    def test_pour_keep_dip_drain(self):
        book = book_of(
            COMES["red"], ("weigh", "red", "tub", 40), ("pour", "tub", "vat", 30), ("keep", "vat", "jar", 5),
            ("dip", "vat", "silk", 5, ANY), ("drain", "vat", 5), ("pour", "jar", "tub", 2), ("drain", "jar", 2),
        )
        self.reaches(book, 50, "silk", "vat")
        self.reaches(book, 60, "vat")
        self.reaches(book, 70, "jar", "tub")
        self.reaches(book, 80, "jar")
        self.reaches(book, 40, "jar", "silk", "tub", "vat")
        self.reaches(book, 30, "jar", "silk", "tub", "vat")
        self.reaches(book, 10, "jar", "red", "silk", "tub", "vat")

    def test_what_is_poured_into_is_no_way_back(self):
        book = book_of(
            COMES["red"], COMES["blue"], ("weigh", "red", "tub", 5), ("weigh", "blue", "vat", 5), ("pour", "tub", "vat", 1),
        )
        self.reaches(book, 40, "blue", "vat")
        self.reaches(book, 30, "red", "tub", "vat")

    def test_only_later_deeds_carry_on(self):
        book = book_of(
            COMES["red"], ("weigh", "red", "tub", 20), ("pour", "tub", "vat", 5), ("weigh", "red", "tub", 5),
            ("keep", "vat", "jar", 1), ("keep", "tub", "pot", 1),
        )
        self.reaches(book, 40, "pot", "red", "tub")
        self.reaches(book, 20, "jar", "pot", "red", "tub", "vat")

    def test_a_later_draw(self):
        book = book_of(
            COMES["rust"], COMES["red"], COMES["blue"], ("draw", "madder", "tub", 5), COMES["ruby"], ("draw", "woad", "vat", 1),
        )
        # Of rust and red both are reached where one is; ruby comes later, and blue is of another stock.
        self.reaches(book, 10, "red", "rust", "tub")
        self.reaches(book, 20, "red", "rust", "tub")
        self.reaches(book, 30, "blue", "vat")
        self.reaches(book, 50, "ruby")
        book = (*book, (70, ("draw", "madder", "vat", 1)))
        self.reaches(book, 50, "red", "ruby", "rust", "vat")
        self.reaches(book, 10, "red", "ruby", "rust", "tub", "vat")

    def test_over_several_vats_jars_and_cloths(self):
        book = book_of(
            COMES["red"], ("weigh", "red", "tub", 20), ("keep", "tub", "jar", 10), ("pour", "jar", "vat", 5),
            ("keep", "vat", "pot", 3), ("vat", "keg", 9), ("pour", "pot", "keg", 2), ("dip", "keg", "silk", 1, ANY),
            COMES["blue"], ("weigh", "blue", "keg", 1), ("drain", "keg", 1), ("dip", "keg", "wool", 1, ANY),
        )
        self.reaches(book, 10, "jar", "keg", "pot", "red", "silk", "tub", "vat", "wool")
        self.reaches(book, 70, "keg", "pot", "silk", "wool")
        self.reaches(book, 90, "blue", "keg", "wool")
        self.reaches(book, 110, "keg", "wool")
        self.reaches(book, 120, "keg", "wool")

    def test_drain_carries_nothing_on(self):
        book = book_of(COMES["red"], ("weigh", "red", "tub", 20), ("drain", "tub", 10), ("vat", "keg", 5))
        self.reaches(book, 10, "red", "tub")
        self.reaches(book, 30, "tub")


def with_another(many, book, seed):
    """A book that stands too, alike but for the deed at one hour, and this hour; None where none was found by chance."""
    chance = random.Random(seed)
    rows = dict(book)
    for turn in range(60):
        hour = chance.choice([*rows, chance.randint(0, 120)])
        other = {at: deed for at, deed in rows.items() if at != hour}
        if chance.random() < 0.7:
            other[hour] = some_deed(many, chance)
        changed = tuple(sorted(other.items(), key=lambda row: row[0]))
        if changed != book and len(changed) <= 40 and failure_as_told(changed) is None:
            return changed, hour
    return None


def reached_if_there(many, book, hour):
    return set(reached(many, book, hour)) if hour in dict(book) else set()


class ByChance(unittest.TestCase):
    def test_as_told(self):
        words = set()
        for many in MANYS:
            for seed in range(40):
                book = some_standing_book(many, seed)
                for hour, deed in book:
                    answer = reached(many, book, hour)
                    self.assertEqual(answer, reached_as_told(book, hour))
                    self.assertEqual(answer, tuple(sorted(set(answer))))
                    words.add(deed[0])
        self.assertEqual(words, set(WORDS))

    def test_what_neither_reaches_stands_alike_in_both(self):
        moved, words = 0, set()
        for many in MANYS:
            for seed in range(80):
                book = some_standing_book(many, seed, 24)
                found = with_another(many, book, seed)
                if found is None:
                    continue
                other, hour = found
                either = reached_if_there(many, book, hour) | reached_if_there(many, other, hour)
                words |= {dict(one)[hour][0] for one in (book, other) if hour in dict(one)}
                for at in sorted({0, hour - 1, hour, 9999, *dict(book)}):
                    if at >= 0:
                        here, there = stands_at(many, book, at)[0], stands_at(many, other, at)[0]
                        moved += here != there
                        self.assertEqual(
                            [row for row in here if row[0] not in either], [row for row in there if row[0] not in either])
        self.assertGreater(moved, 1000)
        self.assertEqual(words, set(WORDS))


class Refused(unittest.TestCase):
    book = book_of(COMES["red"], ("weigh", "red", "tub", 5))
    failing = book_of(COMES["red"], ("weigh", "red", "tub", 51))

    def test_an_hour_without_a_deed(self):
        for hour in (0, 3, 9, 11, 19, 21, 9999, -1, 10000, True, False, None, "10", b"10", [10], (10,), {}, deep(10, 12)):
            self.assertRaises(NoHour, reached, 2, self.book, hour)
            self.assertRaises(NoHour, reached, 2, (), hour)

    def test_an_hour_of_any_kind(self):
        hours = [at for at, deed in self.book]
        for hour in things():
            if not whole(hour) or hour not in hours:
                self.assertRaises(NoHour, reached, 2, self.book, hour)
        for many in MANYS:
            self.assertRaises(NoHour, reached, many, ((1, ("vat", "a", 1)),), True)
            self.assertRaises(NoHour, reached, many, ((0, ("vat", "a", 1)),), False)

    def test_no_many(self):
        for many in NO_MANYS:
            for book in (self.book, self.failing, (), None):
                for hour in (10, None):
                    self.assertRaises(NoMany, reached, many, book, hour)

    def test_no_book(self):
        for book in (None, [], [*self.book], 1, "a", {}, self.book[::-1], ((10, None),), (self.book[0], self.book[0])):
            for hour in (10, None):
                self.assertRaises(NoBook, reached, 2, book, hour)
        # Lots of two parts make no book of three stuffs.
        self.assertRaises(NoBook, reached, 3, self.book, 10)
        self.assertRaises(NoBook, reached, 3, self.failing, 10)

    def test_fails(self):
        for hour in (1, 10, 20, 11, None, -1):
            with self.assertRaises(Fails) as caught:
                reached(2, self.failing, hour)
            self.assertEqual((caught.exception.hour, caught.exception.word), (20, "less"))
        for many in MANYS:
            for seed in range(60):
                book = some_book(many, seed)
                if failure_as_told(book) is not None:
                    with self.assertRaises(Fails) as caught:
                        reached(many, book, book[0][0])
                    self.assertEqual((caught.exception.hour, caught.exception.word), failure_as_told(book))


class Unchanged(unittest.TestCase):
    def test_nothing_handed_in_is_changed(self):
        inner = [[1, 1], {"a": [1]}]
        ahead = copy.deepcopy(inner)
        for thing in (inner, tuple(inner)):
            self.assertRaises(NoMany, reached, thing, thing, thing)
            self.assertRaises(NoBook, reached, 2, thing, thing)
            self.assertRaises(NoHour, reached, 2, Refused.book, thing)
        self.assertEqual(inner, ahead)

    def test_asked_twice_the_same_is_told(self):
        book = some_standing_book(3, 7)
        for hour, deed in book:
            self.assertEqual(reached(3, book, hour), reached(3, book, hour))


if __name__ == "__main__":
    unittest.main()
