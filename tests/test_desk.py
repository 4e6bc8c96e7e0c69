"""The desk: points 2, 3 and 26, the interface's row `desk`."""

import copy
import random
import unittest

from tests.model import MANYS, model_at, row_told, some_deed, some_standing_book
from tests.things import NO_MANYS, Odd, things
from vatmatch.desk import Desk
from vatmatch.errors import DyeError, Fails, NoBack, NoDeed, NoHour, NoMany, NoName, NoRow
from vatmatch.houses import House

ROWS = (
    "10 comes red madder 10 1 0", "15 comes rust madder 4 3 1", "20 comes blue woad 10 0 1", "30 vat tub 99", "31 vat keg 20",
    "40 weigh red tub 6", "50 draw woad tub 3", "60 dip tub silk 4 50 50 50 50", "70 keep tub jar 2", "80 pour jar keg 1",
    "90 drain tub 1",
)
BOOK = "; ".join(ROWS)


def desk_of(rows, many=2):
    desk = Desk(many)
    for row in rows:
        desk.say(row)
    return desk


def number_told(number):
    """A fraction as the desk tells it."""
    top, bottom = number
    return str(top) if bottom == 1 else str(top) + "/" + str(bottom)


def pairs_told(pairs):
    words = [word for name, amount in pairs for word in (name or "-", number_told(amount))]
    return " ".join(words) or "nothing"


class DeskCase(unittest.TestCase):
    def fails(self, hour, word, desk, row):
        with self.assertRaises(Fails) as caught:
            desk.say(row)
        self.assertEqual((caught.exception.hour, caught.exception.word), (hour, word))

    def says(self, desk, row, text):
        answer = desk.say(row)
        self.assertIs(type(answer), str)
        self.assertEqual(answer, text)


class Many(unittest.TestCase):
    def test_refused(self):
        for many in NO_MANYS:
            self.assertRaises(NoMany, Desk, many)

    def test_a_new_desk(self):
        for many in MANYS:
            desk = Desk(many)
            self.assertEqual((desk.say("book"), desk.say("amiss")), ("nothing", "nothing"))
            self.assertRaises(NoBack, desk.say, "back")
            self.assertRaises(NoHour, desk.say, "strike 0")
            self.assertRaises(NoName, desk.say, "what 0 tub")
            self.assertRaises(NoName, desk.say, "where 9999 red")


class Rows(DeskCase):
    def test_each_deed_is_entered(self):
        desk = Desk(2)
        for at, row in enumerate(ROWS):
            self.says(desk, row, "ok")
            self.says(desk, "book", "; ".join(ROWS[:at + 1]))

    def test_the_book_goes_by_hours(self):
        desk = desk_of(["30 vat tub 5", "9999 vat vat 6", "0 comes red madder 9999 0 99", "4 vat keg 99999"])
        self.says(desk, "book", "0 comes red madder 9999 0 99; 4 vat keg 99999; 30 vat tub 5; 9999 vat vat 6")

    def test_three_and_four_stuffs(self):
        rows = ["1 comes a b 9 1 2 3", "2 vat c 9", "3 weigh a c 6", "4 dip c d 6 0 33 33 34 50 50"]
        self.says(desk_of(rows, 3), "book", "; ".join(rows))
        self.says(desk_of(rows, 3), "what 4 d", "a 6")
        rows = ["1 comes a b 9 1 2 3 4", "2 vat c 9", "3 weigh a c 6", "4 dip c d 6 0 10 20 20 30 30 40 100"]
        self.says(desk_of(rows, 4), "book", "; ".join(rows))

    def test_right_ahead_of_each_deed(self):
        others = (
            "10 comes red madder 11 2 1", "15 comes rust madder 5 1 1", "20 comes blue woad 12 1 2", "30 vat tub 98", "31 vat keg 21",
            "40 weigh red tub 7", "50 draw madder tub 4", "60 dip tub silk 3 0 100 0 100", "70 keep tub jar 1", "80 pour tub keg 2",
            "90 drain jar 1",
        )
        for at, (row, other) in enumerate(zip(ROWS, others)):
            desk = desk_of(ROWS)
            self.says(desk, "right " + other, "ok")
            self.says(desk, "book", "; ".join([*ROWS[:at], other, *ROWS[at + 1:]]))
            self.says(desk, "back", "ok")
            self.says(desk, "book", BOOK)
            self.says(desk, "right " + row, "ok")
            self.says(desk, "book", BOOK)

    def test_right_by_a_deed_of_another_word(self):
        desk = desk_of(ROWS)
        self.says(desk, "right 90 vat pot 5", "ok")
        self.says(desk, "book", "; ".join([*ROWS[:-1], "90 vat pot 5"]))

    def test_strike_and_back(self):
        desk = desk_of(ROWS)
        self.says(desk, "strike 90", "ok")
        self.says(desk, "strike 15", "ok")
        self.says(desk, "book", "; ".join(row for row in ROWS[:-1] if row[:2] != "15"))
        self.says(desk, "back", "ok")
        self.says(desk, "book", "; ".join(ROWS[:-1]))
        for row in range(12):
            self.says(desk, "back", "ok")
        self.says(desk, "book", "nothing")
        self.assertRaises(NoBack, desk.say, "back")

    def test_what(self):
        desk = desk_of(ROWS)
        self.says(desk, "what 30 tub", "nothing")
        self.says(desk, "what 39 red", "red 10")
        self.says(desk, "what 40 tub", "red 6")
        self.says(desk, "what 50 tub", "blue 3 red 6")
        self.says(desk, "what 60 silk", "blue 4/3 red 8/3")
        self.says(desk, "what 9999 jar", "blue 1/3 red 2/3")
        self.says(desk, "what 70 jar", "blue 2/3 red 4/3")
        self.says(desk, "what 80 keg", "blue 1/3 red 2/3")
        self.says(desk, "what 50 keg", "nothing")
        self.says(desk, "what 9999 rust", "rust 4")
        desk.say("91 weigh rust keg 4")
        self.says(desk, "what 91 rust", "nothing")

    def test_where(self):
        desk = desk_of(ROWS)
        self.says(desk, "where 10 red", "red 10")
        self.says(desk, "where 40 red", "red 4 tub 6")
        self.says(desk, "where 60 red", "red 4 silk 8/3 tub 10/3")
        self.says(desk, "where 9999 red", "- 2/3 jar 2/3 keg 2/3 red 4 silk 8/3 tub 4/3")
        self.says(desk, "where 90 blue", "- 1/3 blue 7 jar 1/3 keg 1/3 silk 4/3 tub 2/3")
        desk.say("92 draw madder keg 8")
        self.says(desk, "where 92 rust", "keg 4")

    def test_amiss(self):
        desk = desk_of(ROWS)
        self.says(desk, "amiss", "nothing")
        # Of four measures 8/3 are of stuff 0, where half should be: 200/3 hundredths then, and 0 where there are as many.
        desk.say("right 50 draw woad tub 6")
        desk.say("93 dip tub wool 1 0 100 0 100")
        self.says(desk, "amiss", "silk 200/3 0")
        desk.say("right 20 comes blue woad 10 1 0")
        self.says(desk, "amiss", "silk 200/3 200")
        desk.say("94 dip keg linen 1 0 0 100 100")
        self.says(desk, "amiss", "silk 200/3 200")
        desk.say("right 20 comes blue woad 10 0 1")
        self.says(desk, "amiss", "linen 100 50 silk 200/3 0")
        desk.say("right 60 dip tub silk 4 50 50 50 50")
        self.says(desk, "amiss", "linen 100 50")

    def test_words_of_rows_as_names(self):
        rows = [
            "1 comes comes comes 9 1 1", "2 vat vat 9", "3 weigh comes vat 5", "4 draw comes vat 1", "5 keep vat right 1",
            "6 dip vat back 1 0 100 0 100", "7 vat book 9", "8 pour right book 1", "9 drain vat 1", "10 comes strike weigh 5 1 0",
            "11 draw weigh book 1", "12 vat amiss 3", "13 vat what 3", "14 vat where 3", "15 vat ok 3", "16 vat pour 3",
        ]
        desk = desk_of(rows)
        self.says(desk, "book", "; ".join(rows))
        self.says(desk, "what 9 vat", "comes 3")
        self.says(desk, "what 16 book", "comes 1 strike 1")
        self.says(desk, "where 16 strike", "book 1 strike 4")
        self.says(desk, "where 16 comes", "- 1 back 1 book 1 comes 3 vat 3")
        self.says(desk, "what 16 what", "nothing")
        self.says(desk, "right 13 vat draw 3", "ok")


class Refused(DeskCase):
    def no_row(self, desk, row):
        self.assertRaises(NoRow, desk.say, row)

    def test_blanks(self):
        desk = desk_of(ROWS)
        for row in [*ROWS, "right " + ROWS[0], "strike 90", "back", "what 90 tub", "where 90 red", "amiss", "book"]:
            for other in (" " + row, row + " ", row.replace(" ", "  ", 1) + " " * (" " not in row), "\t" + row, row + "\n"):
                self.no_row(desk, other)
            if " " in row:
                self.no_row(desk, row.replace(" ", "\t"))
                self.no_row(desk, row.replace(" ", ""))
                self.no_row(desk, "  ".join(row.rsplit(" ", 1)))
        for row in ("", " ", "  ", "\n"):
            self.no_row(desk, row)
        self.says(desk, "book", BOOK)

    def test_another_word(self):
        desk = desk_of(ROWS)
        for row in (
            "nothing", "ok", "Book", "BOOK", "books", "right", "strike", "what", "where", "amis", "stands 10", "cloths", "matches",
            "100 brings red madder 10 1 0", "100 Vat pot 5", "100 VAT pot 5", "100", "100 strike", "100 vats pot 5", "vat pot 5",
            "right strike 90", "right back", "right book", "right right 90 vat pot 5", "enter 100 vat pot 5", "100 right vat pot 5",
            "tub 90 what", "comes 100 red madder 10 1 0", "100 back", "90 strike", "100 what tub", "100 book", "right amiss",
        ):
            self.no_row(desk, row)
        self.says(desk, "book", BOOK)

    def test_a_word_more_or_less(self):
        desk = desk_of(ROWS)
        for row in [*ROWS, "strike 90", "back", "what 90 tub", "where 90 red", "amiss", "book"]:
            for ahead in ("", "right "):
                for more in ("1", "a", "0", "red", "-"):
                    self.no_row(desk, ahead + row + " " + more)
                self.no_row(desk, ahead + " ".join(row.split(" ")[:-1]))
                self.no_row(desk, ahead + " ".join(row.split(" ")[1:]))
        self.no_row(Desk(3), "1 comes a b 9 1 2")
        self.no_row(Desk(3), "1 comes a b 9 1 2 3 4")
        self.no_row(Desk(3), "1 dip a b 9 0 100 0 100")
        self.no_row(Desk(2), "1 dip a b 9 0 100 0 100 0 100")
        self.no_row(Desk(2), "1 dip a b 9 0 100 0")
        self.says(desk, "book", BOOK)

    def test_numbers(self):
        desk = desk_of(ROWS)
        wrong = ("00", "01", "010", "+1", "-1", "-0", "1.0", "1e3", "1_0", "0x1", "a", "", "-", "1234567890", "0" * 10, "1/1", "one")
        for number in wrong:
            for row in (
                "{} vat pot 5", "100 vat pot {}", "100 comes green weld {} 1 0", "100 comes green weld 5 {} 1", "100 comes green weld 5 1 {}",
                "100 weigh red tub {}", "{} weigh red tub 1", "100 draw madder tub {}", "100 pour jar tub {}", "100 keep tub pot {}",
                "100 dip tub wool {} 0 100 0 100", "100 dip tub wool 1 {} 100 0 100", "100 dip tub wool 1 0 {} 0 100",
                "100 dip tub wool 1 0 100 {} 100", "100 dip tub wool 1 0 100 0 {}", "100 drain tub {}", "strike {}", "what {} tub",
                "where {} red", "right {} drain tub 1", "right 90 drain tub {}",
            ):
                self.no_row(desk, row.replace("{}", number))
        self.says(desk, "book", BOOK)

    def test_names(self):
        desk = desk_of(ROWS)
        for name in ("madders", "Tub", "TUB", "t1", "1", "12", "t-b", "t_b", "", "-", "tub.", "t\tb"):
            for row in (
                "100 vat {} 5", "100 comes {} weld 5 1 0", "100 comes green {} 5 1 0", "100 weigh {} tub 1", "100 weigh red {} 1",
                "100 draw {} tub 1", "100 draw madder {} 1", "100 pour {} tub 1", "100 pour jar {} 1", "100 keep {} pot 1",
                "100 keep tub {} 1", "100 dip {} wool 1 0 100 0 100", "100 dip tub {} 1 0 100 0 100", "100 drain {} 1", "what 90 {}",
                "where 90 {}", "right 90 drain {} 1",
            ):
                self.no_row(desk, row.replace("{}", name))
        self.says(desk, "book", BOOK)

    def test_no_texts(self):
        desk = desk_of(ROWS)
        for thing in [*things(), b"book", ["book"], ("book",), {"book": 1}, Odd()]:
            self.no_row(desk, thing)
        self.says(desk, "book", BOOK)

    def test_ahead_of_all_else(self):
        desk = desk_of(ROWS)
        for row in (
            "10000 vat Pot 5", "10 vat pot 05", "10000 comes red madder 0 0 0 ", "right 11 vat madders 5", "strike 011", "what 10000 1",
            "where 10000 RED", "10 vat red 100000000000", "back 1", "right 10000 pour tub tub 01", "11 pour tub  tub 1",
        ):
            self.no_row(desk, row)
        self.assertRaises(NoRow, Desk(2).say, "back ")

    def test_no_hour(self):
        desk = desk_of(ROWS)
        for row in (
            "10 vat pot 5", "10000 vat pot 5", "999999999 vat pot 5", "10 vat pot 0", "10000 pour tub tub 1", "10 weigh red tub 9999",
            "right 11 vat pot 5", "right 10000 vat pot 5", "right 0 pour tub tub 1", "right 11 weigh red tub 9999",
            "strike 11", "strike 0", "strike 10000", "strike 999999999", "what 10000 tub", "what 999999999 nobody", "where 10000 red",
            "where 123456789 nobody",
        ):
            self.assertRaises(NoHour, desk.say, row)
            self.says(desk, "book", BOOK)

    def test_a_forty_first_deed(self):
        desk = desk_of(f"{hour} vat {chr(97 + hour // 10)}{chr(97 + hour % 10)} 5" for hour in range(40))
        self.assertRaises(NoHour, desk.say, "40 vat pot 5")
        self.assertRaises(NoHour, desk.say, "40 vat pot 0")
        self.assertRaises(NoRow, desk.say, "40 vat pot")
        self.says(desk, "right 39 vat pot 5", "ok")

    def test_no_deed(self):
        desk = desk_of(ROWS)
        for deed in (
            "vat pot 0", "vat pot 100000", "comes green weld 0 1 0", "comes green weld 10000 1 0", "comes green weld 5 0 0",
            "comes green weld 5 100 0", "weigh red tub 0", "weigh red tub 10000", "draw madder tub 0", "draw madder tub 999999999",
            "pour tub tub 1", "pour jar tub 0", "keep tub pot 0", "keep tub pot 10000", "dip tub wool 0 0 100 0 100",
            "dip tub wool 1 51 100 50 100", "dip tub wool 1 0 50 0 49", "dip tub wool 1 60 50 0 100", "dip tub wool 1 0 101 0 100",
            "drain tub 0", "drain tub 10000",
        ):
            self.assertRaises(NoDeed, desk.say, "100 " + deed)
            self.assertRaises(NoDeed, desk.say, "right 90 " + deed)
            self.says(desk, "book", BOOK)

    def test_fails(self):
        desk = desk_of([*ROWS, "32 vat pot 3"])
        book = desk.say("book")
        for hour, word, row in (
            (100, "twice", "100 vat tub 5"), (100, "nothing", "100 weigh tub keg 1"), (100, "less", "100 drain jar 2"),
            (100, "brim", "100 weigh blue pot 4"), (40, "less", "39 weigh red tub 5"), (60, "twice", "9 vat silk 5"),
            (40, "nothing", "strike 10"), (80, "nothing", "strike 70"), (40, "nothing", "right 30 vat vat 5"),
            (70, "less", "right 60 dip tub silk 8 50 50 50 50"), (50, "brim", "right 30 vat tub 8"),
        ):
            self.fails(hour, word, desk, row)
            self.says(desk, "book", book)


class AsTheHouse(DeskCase):
    def test_told_the_same_they_tell_the_same(self):
        refusals = set()
        for many in MANYS:
            for seed in range(25):
                chance = random.Random(seed)
                desk, house = Desk(many), House(many)
                waiting = list(some_standing_book(many, seed, 14))
                for turn in range(45):
                    word = chance.choice(("enter", "enter", "enter", "right", "strike", "back"))
                    hour, deed = chance.choice(waiting) if word == "enter" else (chance.randint(0, 40), some_deed(many, chance))
                    told = self.both(desk, house, word, hour, deed)
                    refusals.add(told)
                    self.alike(many, desk, house, chance)
        self.assertTrue({None, "NoHour", "NoBack", "Fails"} <= refusals, refusals)

    def both(self, desk, house, word, hour, deed):
        """Have both do the same; tells the name of the refusal, None without one."""
        rows = {"enter": row_told(hour, deed), "right": "right " + row_told(hour, deed), "strike": f"strike {hour}", "back": "back"}
        given = {"enter": (hour, deed), "right": (hour, deed), "strike": (hour,), "back": ()}[word]
        try:
            getattr(house, word)(*given)
        except DyeError as refused:
            with self.assertRaises(type(refused)) as caught:
                desk.say(rows[word])
            if isinstance(refused, Fails):
                self.assertEqual((caught.exception.hour, caught.exception.word), (refused.hour, refused.word))
            return type(refused).__name__
        self.says(desk, rows[word], "ok")
        return None

    def alike(self, many, desk, house, chance):
        book = house.book()
        self.says(desk, "book", "; ".join(row_told(hour, deed) for hour, deed in book) or "nothing")
        rows = [" ".join((cloth, number_told(then), number_told(now))) for cloth, then, now in house.amiss()]
        self.says(desk, "amiss", " ".join(rows) or "nothing")
        hour = chance.choice((0, 9999, chance.randint(0, 40)))
        model = model_at(book, hour)[0]
        for name in ("a", "b", "lot", "vat", "madder", "nobody"):
            if name in model.kind:
                self.says(desk, f"what {hour} {name}", pairs_told(model.content(name)))
            else:
                self.assertRaises(NoName, desk.say, f"what {hour} {name}")
            if model.kind.get(name) == "lot":
                rows = [(place, amounts) for place, amounts in sorted(model.holds.items()) if name in amounts]
                told = [(place, (amounts[name].numerator, amounts[name].denominator)) for place, amounts in rows]
                self.says(desk, f"where {hour} {name}", pairs_told(told))
            else:
                self.assertRaises(NoName, desk.say, f"where {hour} {name}")


class Unchanged(DeskCase):
    def test_behind_a_refusal_all_is_as_ahead(self):
        desk = desk_of(ROWS)
        desk.say("right 40 weigh red tub 5")
        ahead = [desk.say(row) for row in ("book", "amiss", "what 9999 tub", "where 9999 red")]
        for row in (
            "book ", "10 vat pot 5", "100 vat pot 0", "100 vat tub 5", "right 11 vat pot 5", "right 10 vat pot 0", "right 10 vat pot 5",
            "strike 10", "strike 11", "what 5 nobody", "where 5 tub", "what 10000 tub", None,
        ):
            self.assertRaises(DyeError, desk.say, row)
            self.assertEqual([desk.say(row) for row in ("book", "amiss", "what 9999 tub", "where 9999 red")], ahead)
        desk.say("back")
        self.says(desk, "book", BOOK)

    def test_what_and_where_of_names_that_are_none_there(self):
        desk = desk_of(ROWS)
        for row in ("what 90 nobody", "what 90 madder", "what 29 tub", "what 9 red", "where 90 tub", "where 90 silk", "where 90 jar"):
            self.assertRaises(NoName, desk.say, row)
        for row in ("where 9 red", "where 90 madder", "where 90 nobody", "what 59 silk"):
            self.assertRaises(NoName, desk.say, row)

    def test_nothing_handed_in_is_changed(self):
        inner = [["book"], {"a": ["book"]}]
        ahead = copy.deepcopy(inner)
        self.assertRaises(NoRow, Desk(2).say, inner)
        self.assertRaises(NoMany, Desk, inner)
        self.assertEqual(inner, ahead)

    def test_two_desks_have_nothing_alike(self):
        one, other = desk_of(ROWS), Desk(2)
        self.says(other, "book", "nothing")
        self.says(other, "10 vat pot 5", "ok")
        self.says(one, "book", BOOK)


if __name__ == "__main__":
    unittest.main()
