"""The house: points 2, 3, 14, 15 and 16, the interface's row `houses`."""

import copy
import itertools
import random
import unittest

from tests.mixings import BAD_MEASURES, BAD_SHADES
from tests.model import (
    MANYS, deed_as_told, failure_as_told, shelf_as_told, some_deed, some_parts, some_shade, some_standing_book,
    stuffs_as_reckoned,
)
from tests.things import NO_MANYS, deep, far_as_told, put, shade_as_told, things, whole
from vatmatch.errors import (
    DyeError, Fails, NoBack, NoDeed, NoHour, NoMany, NoMeasures, NoShade, NoShelf, NoStep, TooLittle,
)
from vatmatch.houses import House
from vatmatch.walks import stands_at
from vatmatch.wholes import by_scale

EVEN = ((50, 50), (50, 50))
ANY = ((0, 100), (0, 100))
RED = ("comes", "red", "madder", (1, 0), 10)
BLUE = ("comes", "blue", "woad", (0, 1), 10)
TUB = ("vat", "tub", 99)
DIP = ("dip", "tub", "silk", 4, EVEN)
ROWS = (
    (10, RED),
    (20, BLUE),
    (30, TUB),
    (40, ("weigh", "red", "tub", 6)),
    (50, ("weigh", "blue", "tub", 2)),
    (60, DIP),
)
BAD_HOURS = [-1, 10000, True, False, None, "10", b"10", [], [10], (10,), {}, {10: 10}, len, deep(10, 12)]
BAD_DEEDS = [None, (), [], "vat", 1, ["vat", "a", 1], ("vat", "a", 0), ("vat", "a", True), ("jar", "a", 1), ("vat", "a")]


def house_of(rows, many=2):
    house = House(many)
    for hour, deed in rows:
        house.enter(hour, deed)
    return house


def state(house):
    """All that a house tells, but for what it tells at an hour."""
    return house.book(), house.cloths(), house.amiss(), house.matches(), house.stands(9999)


class HouseCase(unittest.TestCase):
    def fails(self, hour, word, called, *given):
        with self.assertRaises(Fails) as caught:
            called(*given)
        self.assertEqual((caught.exception.hour, caught.exception.word), (hour, word))


class Many(unittest.TestCase):
    def test_refused(self):
        for many in NO_MANYS:
            self.assertRaises(NoMany, House, many)

    def test_a_new_house(self):
        for many in MANYS:
            house = House(many)
            self.assertEqual(state(house), ((), (), (), (), ((), ())))
            self.assertRaises(NoBack, house.back)


class TheBook(HouseCase):
    def test_each_tells_none(self):
        house = House(2)
        self.assertIsNone(house.enter(10, RED))
        self.assertIsNone(house.right(10, BLUE))
        self.assertIsNone(house.strike(10))
        self.assertIsNone(house.back())

    def test_entered_in_any_turn(self):
        rows = ((5, RED), (6, BLUE), (7, TUB), (9, ("comes", "rust", "madder", (3, 1), 5)))
        for turn in itertools.permutations(rows):
            self.assertEqual(house_of(turn).book(), rows)
            self.assertEqual(house_of(turn).stands(9), stands_at(2, rows, 9))

    def test_entered_in_any_turn_that_stands(self):
        for many in MANYS:
            for seed in range(6):
                rows = some_standing_book(many, seed, 14)
                straight = house_of(rows, many)
                late = House(many)
                waiting = list(rows)
                random.Random(seed).shuffle(waiting)
                while waiting:
                    hour, deed = waiting.pop(0)
                    try:
                        late.enter(hour, deed)
                    except Fails:
                        waiting.append((hour, deed))
                self.assertEqual(late.book(), rows)
                self.assertEqual(late.stands(9999), straight.stands(9999))
                now = [(cloth, now) for cloth, then, now in late.cloths()]
                self.assertEqual(now, [(cloth, now) for cloth, then, now in straight.cloths()])

    def test_enter_at_an_hour_that_has_a_deed(self):
        house = house_of(ROWS)
        for hour, deed in ROWS:
            self.assertRaises(NoHour, house.enter, hour, ("vat", "new", 5))
            self.assertRaises(NoHour, house.enter, hour, None)
            self.assertRaises(NoHour, house.enter, hour, RED)
        self.assertEqual(house.book(), ROWS)

    def test_strike_and_right_where_no_deed_is(self):
        house = house_of(ROWS)
        for hour in (0, 11, 59, 61, 9999):
            self.assertRaises(NoHour, house.strike, hour)
            for deed in (("vat", "new", 5), None, RED):
                self.assertRaises(NoHour, house.right, hour, deed)
        self.assertRaises(NoHour, House(2).strike, 0)
        self.assertRaises(NoHour, House(2).right, 0, TUB)

    def test_hours_that_are_none(self):
        house = house_of(((0, RED), (1, BLUE)))
        for hour in [*BAD_HOURS, *things()]:
            if not (whole(hour) and 0 <= hour <= 9999):
                for deed in (TUB, None, RED):
                    self.assertRaises(NoHour, house.enter, hour, deed)
                    self.assertRaises(NoHour, house.right, hour, deed)
                self.assertRaises(NoHour, house.strike, hour)
                self.assertRaises(NoHour, house.stands, hour)
        self.assertEqual(house.book(), ((0, RED), (1, BLUE)))
        house.back()
        house.back()
        self.assertRaises(NoBack, house.back)

    def test_hours_at_the_ends(self):
        house = House(2)
        house.enter(9999, TUB)
        house.enter(0, RED)
        self.assertEqual(house.book(), ((0, RED), (9999, TUB)))

    def test_a_forty_first_deed(self):
        house = House(2)
        names = ["".join(pair) for pair in itertools.product("abcdefg", repeat=2)]
        for hour in range(40):
            house.enter(2 * hour, ("vat", names[hour], 5))
        ahead = house.book()
        self.assertEqual(len(ahead), 40)
        for hour in (1, 200, 9999):
            for deed in (("vat", "zz", 5), None, ("vat", "aa", 5)):
                self.assertRaises(NoHour, house.enter, hour, deed)
        self.assertEqual(house.book(), ahead)
        house.right(0, ("vat", "zz", 5))
        house.strike(78)
        house.enter(1, ("vat", "zzz", 5))
        self.assertEqual(len(house.book()), 40)

    def test_no_deed(self):
        house = house_of(ROWS)
        ahead = state(house)
        for deed in [*BAD_DEEDS, *things(), ("comes", "a", "b", (1, 1, 1), 5), ("pour", "tub", "tub", 1)]:
            self.assertFalse(deed_as_told(2, deed))
            self.assertRaises(NoDeed, house.enter, 70, deed)
            self.assertRaises(NoDeed, house.right, 10, deed)
        self.assertEqual(state(house), ahead)

    def test_a_book_that_would_fail(self):
        house = house_of(ROWS)
        ahead = state(house)
        self.fails(70, "twice", house.enter, 70, RED)
        self.fails(10, "twice", house.enter, 5, RED)
        self.fails(5, "nothing", house.enter, 5, ("drain", "tub", 1))
        self.fails(70, "less", house.enter, 70, ("drain", "tub", 5))
        self.fails(60, "less", house.enter, 55, ("drain", "tub", 5))
        self.fails(50, "brim", house.right, 30, ("vat", "tub", 7))
        self.fails(40, "nothing", house.strike, 10)
        self.fails(40, "nothing", house.strike, 30)
        self.fails(60, "less", house.strike, 40)
        self.fails(40, "less", house.right, 10, ("comes", "red", "madder", (1, 0), 5))
        self.fails(40, "nothing", house.right, 10, ("vat", "red", 5))
        self.fails(60, "less", house.right, 60, ("dip", "tub", "silk", 9, EVEN))
        self.assertEqual(state(house), ahead)

    def test_no_hour_ahead_of_no_deed_ahead_of_fails(self):
        house = house_of(ROWS)
        self.assertRaises(NoHour, house.enter, 10, None)
        self.assertRaises(NoHour, house.enter, -1, None)
        self.assertRaises(NoHour, house.right, 11, None)
        self.assertRaises(NoDeed, house.enter, 5, ("drain", "tub", 0))
        self.assertRaises(NoDeed, house.right, 10, ("drain", "tub", 0))
        self.fails(5, "nothing", house.enter, 5, ("drain", "tub", 1))

    def test_put_right(self):
        house = house_of(ROWS)
        house.right(40, ("draw", "madder", "tub", 9))
        self.assertEqual(house.book()[3], (40, ("draw", "madder", "tub", 9)))
        self.assertEqual(len(house.book()), 6)
        house.strike(60)
        house.right(50, ("weigh", "blue", "tub", 2))
        self.assertEqual(house.book(), ROWS[:3] + ((40, ("draw", "madder", "tub", 9)), ROWS[4]))

    def test_stands(self):
        house = house_of(ROWS)
        for hour in (0, 10, 35, 60, 9999):
            self.assertEqual(house.stands(hour), stands_at(2, ROWS, hour))


class Back(HouseCase):
    def test_over_enter_strike_and_right(self):
        house = House(2)
        seen = [house.book()]
        for hour, deed in ROWS:
            house.enter(hour, deed)
            seen.append(house.book())
        house.strike(60)
        seen.append(house.book())
        house.right(10, ("comes", "red", "madder", (5, 5), 8))
        seen.append(house.book())
        house.right(10, ("comes", "red", "madder", (5, 5), 8))
        seen.append(house.book())
        for ahead in seen[-2::-1]:
            house.back()
            self.assertEqual(house.book(), ahead)
        self.assertEqual(house.book(), ())
        self.assertRaises(NoBack, house.back)
        self.assertRaises(NoBack, house.back)
        house.enter(1, RED)
        self.assertEqual(house.book(), ((1, RED),))

    def test_what_was_taken_back_is_not_taken_back_again(self):
        house = House(2)
        house.enter(1, RED)
        house.enter(2, BLUE)
        house.back()
        house.enter(3, TUB)
        house.back()
        self.assertEqual(house.book(), ((1, RED),))
        house.back()
        self.assertEqual(house.book(), ())
        self.assertRaises(NoBack, house.back)

    def test_a_refused_call_is_not_taken_back(self):
        house = house_of(ROWS)
        for called, given in (
            (house.enter, (10, TUB)), (house.enter, (70, None)), (house.enter, (70, RED)), (house.strike, (11,)),
            (house.strike, (10,)), (house.right, (11, TUB)), (house.right, (10, None)), (house.right, (10, TUB)),
            (house.match, (10, EVEN, 99, 1)), (house.stands, (None,)),
        ):
            self.assertRaises(DyeError, called, *given)
        house.match(10, EVEN, 2, 1)
        house.stands(3)
        house.back()
        self.assertEqual(house.book(), ROWS[:-1])

    def test_behind_a_refused_back_all_is_as_it_was(self):
        house = House(2)
        house.enter(1, RED)
        house.match(1, EVEN, 2, 1)
        house.back()
        ahead = state(house)
        self.assertRaises(NoBack, house.back)
        self.assertEqual(state(house), ahead)


class Cloths(HouseCase):
    def test_then_and_now_alike(self):
        # Three of four measures are red: a measure too much.
        house = house_of(ROWS)
        self.assertEqual(house.cloths(), (("silk", (100, 1), (100, 1)),))
        self.assertEqual(house.amiss(), ())

    def test_parts_put_right_behind_a_dip(self):
        house = house_of(ROWS)
        house.right(10, ("comes", "red", "madder", (2, 1), 10))
        self.assertEqual(house.cloths(), (("silk", (100, 1), (0, 1)),))
        self.assertEqual(house.amiss(), (("silk", (100, 1), (0, 1)),))
        house.right(10, ("comes", "red", "madder", (9, 0), 10))
        self.assertEqual(house.cloths(), (("silk", (100, 1), (100, 1)),))
        self.assertEqual(house.amiss(), ())

    def test_a_dip_put_right_has_its_then_anew(self):
        house = house_of(ROWS)
        house.right(10, ("comes", "red", "madder", (2, 1), 10))
        house.right(60, DIP)
        self.assertEqual(house.cloths(), (("silk", (0, 1), (0, 1)),))
        house.right(60, ("dip", "tub", "wool", 2, ((0, 40), (60, 100))))
        self.assertEqual(house.cloths(), (("wool", (20, 1), (20, 1)),))
        house.right(60, ("keep", "tub", "jar", 2))
        self.assertEqual(house.cloths(), ())

    def test_another_deed_put_right_to_a_dip(self):
        house = house_of(ROWS[:5] + ((60, ("keep", "tub", "jar", 4)),))
        self.assertEqual(house.cloths(), ())
        house.right(60, DIP)
        self.assertEqual(house.cloths(), (("silk", (100, 1), (100, 1)),))

    def test_a_deed_entered_late_and_struck(self):
        house = house_of(ROWS)
        house.enter(55, ("weigh", "blue", "tub", 4))
        self.assertEqual(house.cloths(), (("silk", (100, 1), (0, 1)),))
        house.strike(55)
        self.assertEqual(house.cloths(), (("silk", (100, 1), (100, 1)),))

    def test_struck_and_entered_again(self):
        house = house_of(ROWS)
        house.right(10, ("comes", "red", "madder", (2, 1), 10))
        house.strike(60)
        self.assertEqual(house.cloths(), ())
        self.assertEqual(house.amiss(), ())
        house.enter(61, DIP)
        self.assertEqual(house.cloths(), (("silk", (0, 1), (0, 1)),))
        house.right(10, RED)
        self.assertEqual(house.amiss(), (("silk", (0, 1), (100, 1)),))

    def test_taken_back_the_thens_are_as_they_were(self):
        house = house_of(ROWS)
        house.right(10, ("comes", "red", "madder", (2, 1), 10))
        for turn in range(2):
            ahead = house.cloths()
            house.right(60, DIP)
            self.assertEqual(house.cloths(), (("silk", (0, 1), (0, 1)),))
            house.back()
            self.assertEqual(house.cloths(), ahead)
            house.strike(60)
            self.assertEqual(house.cloths(), ())
            house.back()
            self.assertEqual(house.cloths(), ahead)
        house.back()
        self.assertEqual(house.cloths(), (("silk", (100, 1), (100, 1)),))
        house.back()
        self.assertEqual(house.cloths(), ())

    def test_a_refused_change_leaves_the_thens(self):
        house = house_of(ROWS)
        house.right(10, ("comes", "red", "madder", (2, 1), 10))
        ahead = house.cloths()
        self.assertRaises(Fails, house.right, 60, ("dip", "tub", "silk", 9, EVEN))
        self.assertRaises(NoDeed, house.right, 60, ("dip", "tub", "silk", 4, None))
        self.assertRaises(NoHour, house.enter, 60, DIP)
        self.assertEqual(house.cloths(), ahead)

    def test_rising_by_cloth(self):
        house = house_of(ROWS[:5])
        for hour, name in ((60, "m"), (58, "z"), (62, "a"), (64, "b")):
            house.enter(hour, ("dip", "tub", name, 1, EVEN))
        self.assertEqual([row[0] for row in house.cloths()], ["a", "b", "m", "z"])
        house.right(10, ("comes", "red", "madder", (1, 1), 10))
        # A fourth of each measure is of blue, and the rest is half and half: 12 1/2 hundredths too few of stuff 0.
        self.assertEqual([row[0] for row in house.amiss()], ["a", "b", "m", "z"])
        self.assertEqual(house.cloths()[0], ("a", (25, 1), (25, 2)))
        house.right(58, ("dip", "tub", "z", 1, EVEN))
        self.assertEqual([row[0] for row in house.amiss()], ["a", "b", "m"])

    def test_two_houses_do_not_touch_each_other(self):
        one, other = house_of(ROWS), house_of(ROWS)
        ahead = state(other)
        one.right(10, ("comes", "red", "madder", (2, 1), 10))
        one.match(10, EVEN, 2, 1)
        one.strike(60)
        self.assertEqual(state(other), ahead)
        other.back()
        self.assertEqual(one.book()[0][1][3], (2, 1))
        self.assertEqual(len(one.matches()), 1)

    def test_now_by_the_model(self):
        for many in MANYS:
            for seed in range(8):
                rows = some_standing_book(many, seed, 30)
                house = house_of(rows, many)
                cloths = {deed[2]: deed[4] for hour, deed in rows if deed[0] == "dip"}
                distances = [
                    (cloth, far_as_told(cloths[cloth], stuffs_as_reckoned(many, rows, 9999, cloth)))
                    for cloth in sorted(cloths)
                ]
                self.assertEqual([(cloth, now) for cloth, then, now in house.cloths()], distances)
                self.assertEqual([(cloth, then) for cloth, then, now in house.cloths()], distances)
                self.assertEqual(house.amiss(), ())


class Shadow:
    """A house said again: the whole past is kept, and all is reckoned by the model."""

    def __init__(self, many):
        self.many = many
        self.past = [((), ())]

    def distance(self, rows, deed):
        return far_as_told(deed[4], stuffs_as_reckoned(self.many, rows, 9999, deed[2]))

    def take(self, rows, hour):
        rows = dict(rows)
        book = tuple(sorted(rows.items()))
        if failure_as_told(book) is not None:
            return False
        thens = dict(self.past[-1][1])
        thens.pop(hour, None)
        if hour in rows and rows[hour][0] == "dip":
            thens[hour] = self.distance(book, rows[hour])
        self.past.append((book, tuple(thens.items())))
        return True

    def cloths(self):
        book, thens = self.past[-1]
        rows = [(deed[2], dict(thens)[hour], self.distance(book, deed)) for hour, deed in book if deed[0] == "dip"]
        return tuple(sorted(rows))


class ByChance(HouseCase):
    def turn(self, house, shadow, chance):
        """One change by chance, in the house and in its shadow."""
        book = dict(shadow.past[-1][0])
        kind = chance.choice(("enter", "enter", "right", "strike", "back"))
        hour = chance.choice(sorted(book) or [0]) if kind in ("right", "strike") else chance.randint(0, 60)
        deed = some_deed(shadow.many, chance)
        if kind == "right" and chance.random() < 0.8:
            deed = book.get(hour, deed)
            if deed[0] == "comes":
                deed = put(deed, 3, some_parts(shadow.many, chance))
        if kind == "back":
            if len(shadow.past) > 1:
                house.back()
                shadow.past.pop()
            else:
                self.assertRaises(NoBack, house.back)
        elif (hour in book) == (kind == "enter") or (kind == "enter" and len(book) == 40):
            self.assertRaises(NoHour, getattr(house, kind), *((hour,) if kind == "strike" else (hour, deed)))
        elif kind == "strike":
            del book[hour]
            self.both(house.strike, (hour,), shadow.take(book, hour))
        else:
            book[hour] = deed
            self.both(getattr(house, kind), (hour, deed), shadow.take(book, hour))

    def both(self, called, given, taken):
        if taken:
            called(*given)
        else:
            self.assertRaises(Fails, called, *given)

    def begun(self, many, seed):
        """A book that stands, with two lots in a vat of which several cloths are dipped."""
        chance = random.Random(seed)
        first = [
            (3, ("comes", "red", "madder", some_parts(many, chance), 30)),
            (6, ("comes", "blue", "woad", some_parts(many, chance), 30)),
            (9, ("vat", "tub", 99)),
            (12, ("weigh", "red", "tub", chance.randint(1, 30))),
            (15, ("draw", "woad", "tub", chance.randint(9, 30))),
        ]
        return first + [(20 + at, ("dip", "tub", name, 2, some_shade(many, chance))) for at, name in enumerate("mno")]

    def test_many_changes(self):
        amiss = 0
        for seed in range(6):
            many = MANYS[seed % 3]
            chance = random.Random(seed)
            house, shadow = House(many), Shadow(many)
            for hour, deed in self.begun(many, seed):
                house.enter(hour, deed)
                self.assertTrue(shadow.take([*shadow.past[-1][0], (hour, deed)], hour))
            for turn in range(150):
                self.turn(house, shadow, chance)
                self.assertEqual(house.book(), shadow.past[-1][0])
                self.assertEqual(house.cloths(), shadow.cloths())
                self.assertEqual(house.amiss(), tuple(row for row in shadow.cloths() if row[1] != row[2]))
                amiss += len(house.amiss())
        self.assertGreater(amiss, 100)


class Match(HouseCase):
    def test_by_hand(self):
        house = house_of(ROWS)
        self.assertEqual(house.match(20, EVEN, 6, 1), ((0, 1), (("blue", 3), ("red", 3))))
        self.assertEqual(house.match(10, EVEN, 6, 1), ((300, 1), (("red", 6),)))
        self.assertEqual(house.match(9999, ((100, 100), (0, 0)), 4, 1), ((0, 1), (("red", 4),)))
        self.assertEqual(house.match(9999, ((100, 100), (0, 0)), 5, 1), ((100, 1), (("blue", 1), ("red", 4))))
        self.assertEqual(len(house.matches()), 4)

    def test_jars_are_on_the_shelf_and_vats_are_not(self):
        house = house_of(ROWS[:5] + ((60, ("keep", "tub", "jar", 4)),))
        exact = ((75, 75), (25, 25))
        self.assertEqual(house.match(60, exact, 4, 1), ((0, 1), (("jar", 4),)))
        self.assertEqual(house.match(59, exact, 4, 1), ((0, 1), (("blue", 1), ("red", 3))))
        self.assertEqual(house.match(60, ((0, 0), (100, 100)), 9, 1), ((75, 1), (("blue", 8), ("jar", 1))))

    def test_as_by_scale_of_the_shelf(self):
        asked = 0
        for many in MANYS:
            for seed in range(12):
                rows = some_standing_book(many, seed, 20)
                house = house_of(rows, many)
                chance = random.Random(seed)
                for hour in (rows[2][0], rows[len(rows) // 2][0], 9999):
                    shade, step, times = some_shade(many, chance), chance.choice((1, 2, 3)), chance.choice((1, 4, 12))
                    shelf = shelf_as_told(many, rows, hour)
                    if not 1 <= len(shelf) <= 4:
                        self.assertRaises(NoShelf, house.match, hour, shade, step * times, step)
                        continue
                    try:
                        distance, amounts = by_scale(many, shelf, shade, step * times, step)
                    except TooLittle:
                        self.assertRaises(TooLittle, house.match, hour, shade, step * times, step)
                        continue
                    taken = tuple((row[0], amount) for row, amount in zip(shelf, amounts) if amount)
                    self.assertEqual(house.match(hour, shade, step * times, step), (distance, taken))
                    asked += 1
        self.assertGreater(asked, 10)

    def test_refused_in_this_row(self):
        many_lots = house_of([(at, ("comes", name, "s", (1, 1), 5)) for at, name in enumerate("abcde")])
        for house in (house_of(ROWS), House(2), many_lots):
            for hour in BAD_HOURS:
                for shade, measures, step in ((EVEN, 2, 1), (None, 0, 0), (EVEN, 0, 0), (EVEN, 9999, 9999)):
                    self.assertRaises(NoHour, house.match, hour, shade, measures, step)
            for shade in [*BAD_SHADES, ((0, 100),) * 3]:
                for measures, step in ((2, 1), (0, 0), (9999, 9999)):
                    self.assertRaises(NoShade, house.match, 9999, shade, measures, step)
            for measures in BAD_MEASURES:
                for step in (1, 0, None):
                    self.assertRaises(NoMeasures, house.match, 9999, EVEN, measures, step)
            for step in (0, -1, 5, 7, 24, True, None, "1", (1,), [1]):
                self.assertRaises(NoStep, house.match, 9999, EVEN, 12, step)
            self.assertRaises(NoStep, house.match, 9999, EVEN, 9999, 1)
            self.assertEqual(house.matches(), ())

    def test_no_shelf_of_none_and_of_more_than_four(self):
        self.assertRaises(NoShelf, House(2).match, 0, EVEN, 1, 1)
        self.assertRaises(NoShelf, House(2).match, 0, EVEN, 9999, 9999)
        house = house_of([(at, ("comes", name, "s", (1, 1), 5)) for at, name in enumerate("edcba")])
        self.assertRaises(NoShelf, house.match, 4, EVEN, 1, 1)
        self.assertRaises(NoShelf, house.match, 4, EVEN, 9999, 9999)
        self.assertEqual(house.match(3, EVEN, 1, 1), ((0, 1), (("b", 1),)))
        house.enter(10, TUB)
        house.enter(11, ("weigh", "a", "tub", 5))
        self.assertEqual(house.match(11, EVEN, 5, 5), ((0, 1), (("b", 5),)))
        # What lies in a vat alone is on no shelf.
        bare = house_of(((1, RED), (2, TUB), (3, ("weigh", "red", "tub", 10))))
        self.assertRaises(NoShelf, bare.match, 3, EVEN, 1, 1)

    def test_too_little(self):
        house = house_of(ROWS)
        self.assertRaises(TooLittle, house.match, 9999, EVEN, 13, 13)
        self.assertRaises(TooLittle, house.match, 10, EVEN, 11, 1)
        self.assertRaises(TooLittle, house.match, 20, EVEN, 11, 11)
        self.assertEqual(house.matches(), ())

    def test_things_of_any_kind(self):
        house = house_of(ROWS)
        for thing in things():
            if not shade_as_told(2, thing):
                self.assertRaises(NoShade, house.match, 20, thing, 6, 1)
            if not whole(thing):
                self.assertRaises(NoHour, house.match, thing, EVEN, 6, 1)
                self.assertRaises(NoMeasures, house.match, 20, EVEN, thing, 1)
                self.assertRaises(NoStep, house.match, 20, EVEN, 6, thing)
        self.assertEqual(house.matches(), ())


class Matches(HouseCase):
    first = ((0, 1), (("blue", 3), ("red", 3)))

    def test_kept_in_turn(self):
        house = house_of(ROWS)
        told = [house.match(20, EVEN, 6, 1), house.match(10, ANY, 4, 2), house.match(20, EVEN, 6, 1)]
        self.assertEqual(house.matches(), (
            (20, EVEN, 6, 1, told[0], told[0]), (10, ANY, 4, 2, told[1], told[1]), (20, EVEN, 6, 1, told[2], told[2]),
        ))
        self.assertEqual(told[0], self.first)

    def test_a_refused_one_is_not_kept(self):
        house = house_of(ROWS)
        for given in ((None, EVEN, 6, 1), (20, None, 6, 1), (20, EVEN, 0, 1), (20, EVEN, 6, 0), (0, EVEN, 6, 1), (20, EVEN, 99, 99)):
            self.assertRaises(DyeError, house.match, *given)
        self.assertEqual(house.matches(), ())
        house.match(20, EVEN, 6, 1)
        self.assertRaises(DyeError, house.match, 20, EVEN, 99, 99)
        self.assertEqual(len(house.matches()), 1)

    def test_now_by_the_book_of_now(self):
        house = house_of(ROWS[:3])
        self.assertEqual(house.match(30, EVEN, 6, 1), self.first)
        house.right(20, ("comes", "blue", "woad", (1, 1), 10))
        self.assertEqual(house.matches(), ((30, EVEN, 6, 1, self.first, ((0, 1), (("blue", 6),))),))
        house.right(20, ("comes", "blue", "woad", (1, 1), 5))
        self.assertEqual(house.matches()[0][5], ((50, 1), (("blue", 5), ("red", 1))))
        house.strike(20)
        self.assertEqual(house.matches()[0][5], ((300, 1), (("red", 6),)))
        house.right(10, ("comes", "red", "madder", (1, 0), 5))
        self.assertEqual(house.matches(), ((30, EVEN, 6, 1, self.first, None),))
        house.strike(10)
        self.assertEqual(house.matches(), ((30, EVEN, 6, 1, self.first, None),))
        for turn in range(4):
            house.back()
        self.assertEqual(house.matches()[0][4:], (self.first, ((0, 1), (("blue", 6),))))

    def test_none_of_more_than_four(self):
        house = house_of(ROWS[:3])
        house.match(30, EVEN, 6, 1)
        for at, name in enumerate("abc"):
            house.enter(at, ("comes", name, "s", (1, 1), 1))
        self.assertEqual(house.matches(), ((30, EVEN, 6, 1, self.first, None),))
        house.strike(0)
        self.assertIsNotNone(house.matches()[0][5])

    def test_kept_whatever_is_taken_back(self):
        house = house_of(ROWS[:3])
        house.match(30, EVEN, 6, 1)
        for turn in range(3):
            house.back()
        self.assertRaises(NoBack, house.back)
        self.assertEqual(house.matches(), ((30, EVEN, 6, 1, self.first, None),))
        house.enter(30, RED)
        self.assertEqual(house.matches()[0][4:], (self.first, ((300, 1), (("red", 6),))))

    def test_kinds(self):
        house = house_of(ROWS)
        house.match(20, EVEN, 6, 1)
        row = house.matches()[0]
        for part in (house.matches(), row, row[4], row[4][1], row[4][1][0], row[5], house.book(), house.cloths(), house.amiss()):
            self.assertIs(type(part), tuple)
        self.assertTrue(all(whole(amount) for name, amount in row[4][1]))


class Unchanged(HouseCase):
    def test_nothing_handed_in_is_changed(self):
        house = house_of(ROWS)
        inner = [["vat", "a", 1], {"a": [1]}]
        ahead = copy.deepcopy(inner)
        for thing in (inner, tuple(inner)):
            self.assertRaises(NoDeed, house.enter, 70, thing)
            self.assertRaises(NoDeed, house.right, 60, thing)
            self.assertRaises(NoHour, house.strike, thing)
            self.assertRaises(NoHour, house.match, thing, thing, thing, thing)
            self.assertRaises(NoShade, house.match, 20, thing, thing, thing)
            self.assertRaises(NoMany, House, thing)
        self.assertEqual(inner, ahead)

    def test_asked_twice_the_same_is_told(self):
        house = house_of(ROWS)
        house.match(20, EVEN, 6, 1)
        house.right(10, ("comes", "red", "madder", (2, 1), 10))
        self.assertEqual(state(house), state(house))
        self.assertEqual(house.match(20, EVEN, 6, 1), house.match(20, EVEN, 6, 1))


if __name__ == "__main__":
    unittest.main()
