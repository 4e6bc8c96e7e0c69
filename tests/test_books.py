"""Deeds and books: points 2, 5 and 7, the interface's row `books`."""

import copy
import unittest

from tests.model import MANYS, book_as_told, deed_as_told, some_book, some_standing_book
from tests.things import GREAT, NO_MANYS, put, things
from vatmatch.books import is_book, is_deed
from vatmatch.errors import NoMany

PARTS = {2: (3, 5), 3: (0, 2, 99), 4: (1, 0, 0, 99)}
SHADES = {2: ((30, 60), (40, 70)), 3: ((10, 20), (30, 50), (0, 100)), 4: ((25, 25),) * 4}
NAMED = ("weigh", "draw", "pour", "keep")
NO_NAMES = ("", "madders", "A", "aB", "a1", "a ", " a", "a-b", "a_b", "a`", "a{", "\u00e9", "a\n", b"a", None, 1, ("a",))


def deeds(many):
    """A deed of each word."""
    return [
        ("comes", "lot", "stock", PARTS[many], 5),
        ("vat", "vat", 100),
        *[(word, "one", "other", 7) for word in NAMED],
        ("dip", "vat", "cloth", 3, SHADES[many]),
        ("drain", "vat", 2),
    ]


class Many(unittest.TestCase):
    def test_refused_whatever_else_is_handed_in(self):
        for many in NO_MANYS:
            for thing in [*deeds(2), *deeds(4), (), ((0, ("vat", "a", 1)),), None, [], {}, "vat", 0]:
                for asked in (is_deed, is_book):
                    self.assertRaises(NoMany, asked, many, thing)


class Deeds(unittest.TestCase):
    def check(self, many, deed):
        self.assertIs(is_deed(many, deed), deed_as_told(many, deed), repr(deed)[:120])

    def yes(self, many, *deed):
        self.assertIs(is_deed(many, deed), True, deed)

    def no(self, many, *deed):
        self.assertIs(is_deed(many, deed), False, deed)

    def test_each_word(self):
        for many in MANYS:
            self.assertEqual(len({deed[0] for deed in deeds(many)}), 8)
            for deed in deeds(many):
                self.yes(many, *deed)

    def test_measures(self):
        for many in MANYS:
            for measures, good in ((-1, False), (0, False), (1, True), (9999, True), (10000, False), (True, False)):
                answer = self.yes if good else self.no
                answer(many, "comes", "lot", "stock", PARTS[many], measures)
                for word in NAMED:
                    answer(many, word, "a", "b", measures)
                answer(many, "dip", "a", "b", measures, SHADES[many])
                answer(many, "drain", "a", measures)

    def test_brim(self):
        for brim in (1, 2, 10000, 99999):
            self.yes(2, "vat", "a", brim)
        for brim in (-1, 0, 100000, GREAT, True, None, "1", (1,), [1]):
            self.no(2, "vat", "a", brim)

    def test_parts_of_a_lot(self):
        for many in MANYS:
            for place in range(many):
                for part in (0, 1, 99):
                    self.yes(many, "comes", "a", "b", put((1,) * many, place, part), 1)
                for part in (-1, 100, GREAT, True, "1", None, (1,)):
                    self.no(many, "comes", "a", "b", put((1,) * many, place, part), 1)
                self.yes(many, "comes", "a", "b", put((0,) * many, place, 99), 1)
            self.no(many, "comes", "a", "b", (0,) * many, 1)
            self.no(many, "comes", "a", "b", [1] * many, 1)
            self.no(many, "comes", "a", "b", (1,) * (many + 1), 1)
            self.no(many, "comes", "a", "b", (1,) * (many - 1), 1)

    def test_names(self):
        for many in MANYS:
            for deed in deeds(many):
                places = [1] if deed[0] in ("vat", "drain") else [1, 2]
                for place in places:
                    for name in ("a", "z", "madder", "zzzzzz"):
                        self.yes(many, *put(deed, place, name))
                    for name in NO_NAMES:
                        self.no(many, *put(deed, place, name))

    def test_from_unlike_vat_in_pour_alone(self):
        self.no(2, "pour", "a", "a", 1)
        self.yes(2, "pour", "a", "b", 1)
        self.yes(2, "weigh", "a", "a", 1)
        self.yes(2, "draw", "a", "a", 1)
        self.yes(2, "keep", "a", "a", 1)
        self.yes(2, "dip", "a", "a", 1, SHADES[2])
        self.yes(2, "comes", "a", "a", (1, 1), 1)

    def test_shade_of_a_dip(self):
        for shade in (((0, 100), (0, 100)), ((40, 100), (60, 100)), ((0, 40), (0, 60)), ((100, 100), (0, 0))):
            self.yes(2, "dip", "a", "b", 1, shade)
        wrong = [
            ((41, 100), (60, 100)), ((0, 40), (0, 59)), ((50, 49), (0, 100)), ((-1, 100), (0, 100)),
            ((0, 101), (0, 100)), ((0, 100),), ((0, 100),) * 3, [(0, 100), (0, 100)], ([0, 100], (0, 100)),
            ((False, 100), (0, 100)), ((0, 100), (0, 100, 0)), ((0, 100), None), None, (),
        ]
        for shade in wrong:
            self.no(2, "dip", "a", "b", 1, shade)

    def test_one_part_more_or_less(self):
        for many in MANYS:
            for deed in deeds(many):
                for length in range(len(deed)):
                    self.no(many, *deed[:length])
                for thing in (1, "a", None, (), PARTS[many], SHADES[many], deed):
                    self.no(many, *deed, thing)

    def test_another_word(self):
        for many in MANYS:
            for deed in deeds(many):
                for word in ("", "Comes", "vats", "lot", "comes ", "jar", b"vat", None, 1, (), ("vat",), ["vat"], {}):
                    self.no(many, *put(deed, 0, word))
                for word in ("comes", "vat", "weigh", "draw", "pour", "keep", "dip", "drain"):
                    self.check(many, put(deed, 0, word))

    def test_another_number_of_stuffs(self):
        for many in MANYS:
            for other in MANYS:
                for deed in deeds(other):
                    self.assertIs(is_deed(many, deed), many == other or deed[0] not in ("comes", "dip"))

    def test_things_of_any_kind(self):
        for many in MANYS:
            for thing in things():
                self.check(many, thing)

    def test_things_of_any_kind_at_every_place(self):
        for many in MANYS:
            for deed in deeds(many):
                self.assertIs(is_deed(many, list(deed)), False)
                for place in range(len(deed)):
                    for thing in things():
                        self.check(many, put(deed, place, thing))

    def test_things_of_any_kind_within_parts_and_shades(self):
        for many in MANYS:
            for place in range(many):
                for thing in things():
                    self.check(many, ("comes", "a", "b", put(PARTS[many], place, thing), 1))
                    self.check(many, ("dip", "a", "b", 1, put(SHADES[many], place, thing)))
                    self.check(many, ("dip", "a", "b", 1, put(SHADES[many], place, put((0, 100), 0, thing))))
                    self.check(many, ("dip", "a", "b", 1, put(SHADES[many], place, put((0, 100), 1, thing))))


def rows(hours, deed=("vat", "a", 1)):
    return tuple((hour, deed) for hour in hours)


class Books(unittest.TestCase):
    def check(self, many, book):
        self.assertIs(is_book(many, book), book_as_told(many, book), repr(book)[:120])

    def yes(self, book, many=2):
        self.assertIs(is_book(many, book), True, book)

    def no(self, book, many=2):
        self.assertIs(is_book(many, book), False, book)

    def test_how_many_deeds(self):
        for many in MANYS:
            self.yes((), many)
            self.yes(rows([7]), many)
            self.yes(rows(range(39)), many)
            self.yes(rows(range(40)), many)
            self.no(rows(range(41)), many)
            self.no(rows(range(0, 1000, 7)), many)

    def test_a_book_need_not_stand(self):
        self.yes(((1, ("drain", "a", 1)), (2, ("drain", "a", 1))))
        self.yes(((1, ("vat", "a", 1)), (2, ("vat", "a", 1))))

    def test_hours(self):
        self.yes(rows([0]))
        self.yes(rows([9999]))
        self.yes(rows([0, 9999]))
        for hour in (-1, 10000, GREAT, -GREAT, True, False, None, "1", b"1", (1,), [1], {}, len):
            self.no(rows([hour]))
            self.no(rows([hour, 5]))
            self.no(rows([5, hour]))

    def test_hours_rise(self):
        self.yes(rows([1, 2, 3]))
        for hours in ([1, 1], [2, 1], [1, 3, 2], [1, 2, 2], [3, 3, 4], [0, 5, 9999, 1], [1, 2, 3, 1]):
            self.no(rows(hours))

    def test_a_row_of_other_parts(self):
        deed = ("vat", "a", 1)
        for row in ((1,), (deed,), (1, deed, deed), (1, deed, None), (), (deed, 1), [1, deed], {1: deed}, deed, 1, None):
            self.no((row,))
            self.no(((0, deed), row))
            self.no((row, (9999, deed)))

    def test_other_kinds(self):
        self.no([])
        self.no([*rows([1, 2])])
        self.no({})
        self.no({1: ("vat", "a", 1)})
        self.no(None)
        self.no("")
        self.no((1, ("vat", "a", 1)))

    def test_a_deed_that_is_none_at_any_place(self):
        for many in MANYS:
            good = rows([1, 3, 5, 7])
            wrong = [
                ("vat", "a", 0), ("vat", "a"), ["vat", "a", 1], ("jar", "a", 1), None, (), "vat", 1, True,
                ("pour", "a", "a", 1), ("comes", "a", "b", (1,) * 5, 1), ("comes", "a", "b", (100,) * many, 1),
            ]
            for place in range(4):
                for deed in wrong:
                    self.no(put(good, place, (good[place][0], deed)), many)

    def test_things_of_any_kind(self):
        for many in MANYS:
            good = tuple(enumerate(deeds(many)))
            self.yes(good, many)
            for thing in things():
                self.check(many, thing)
                for place in (0, 3, 7):
                    self.check(many, put(good, place, thing))
                    self.check(many, put(good, place, (thing, ("vat", "a", 1))))
                    self.check(many, put(good, place, (place, thing)))

    def test_books_by_chance(self):
        for many in MANYS:
            for seed in range(10):
                self.yes(some_book(many, seed), many)
                book = some_standing_book(many, seed, 20)
                self.yes(book, many)
                self.no(book[::-1], many)
                self.no(list(book), many)
                for other in MANYS:
                    self.check(other, book)


class Unchanged(unittest.TestCase):
    def test_nothing_handed_in_is_changed(self):
        inner = [["vat", "a", 1], {"a": [1]}, ("comes", "a", "b", [1, 2], 3), (1, ["vat", "a", 1]), ("dip", {1: [2]})]
        ahead = copy.deepcopy(inner)
        for many in MANYS:
            for thing in (inner, tuple(inner), *inner):
                for asked in (is_deed, is_book):
                    self.assertIs(asked(many, thing), False)
                    self.assertIs(asked(many, thing), False)
        self.assertEqual(inner, ahead)


if __name__ == "__main__":
    unittest.main()
