"""The whole program: points 2 and 3, over all modules together."""

import random
import unittest
from fractions import Fraction

from tests.claims import some_papers
from tests.mixings import some_leavings_and_cloths, some_question
from tests.model import MANYS, NAMES, STOCKS, failure_as_told, row_told, some_book, some_standing_book
from tests.things import Same, Sour
from tests.weighed import some_match, some_measures, some_mended, some_prices, some_vat, some_weights
from vatmatch.cheapest import cheapest, floor_of
from vatmatch.checker import holds
from vatmatch.desk import Desk
from vatmatch.errors import (
    DyeError, Fails, NoBook, NoBrim, NoCloths, NoDeed, NoHour, NoMany, NoMeasures, NoName, NoPrices, NoRow, NoShade, NoShelf,
    NoStep, NoStuffs, NoVat, NoWeights,
)
from vatmatch.houses import House
from vatmatch.leavings import serves
from vatmatch.mending import mend, more
from vatmatch.nearest import nearest
from vatmatch.papers import paper_cheap, paper_mend, paper_near, paper_served
from vatmatch.reach import reached
from vatmatch.shades import far
from vatmatch.tracing import mix_of, shelf_at, stuffs_of, where_is
from vatmatch.walks import fails_at, stands_at
from vatmatch.weighings import bound
from vatmatch.wholes import by_scale

OTHER_NAMES = ("zebra", "comes", "vat", "q", "right", "aaaaaa", "zzzzzz", "book", "draw", "m", "n", "o", "p")


def house_of(many, book):
    house = House(many)
    for hour, deed in book:
        house.enter(hour, deed)
    return house


def some_naming(seed):
    """Other names for all names and stocks, taken by chance; the text without signs stays what it is."""
    own = sorted({*NAMES, *STOCKS})
    naming = dict(zip(own, random.Random(seed).sample(OTHER_NAMES, len(own))))
    return {**naming, "": ""}


def named_deed(deed, naming):
    return (deed[0], *[naming[place] if type(place) is str else place for place in deed[1:]])


def named_book(book, naming):
    return tuple((hour, named_deed(deed, naming)) for hour, deed in book)


def named_rows(rows, naming):
    """Rows that each begin with a name, with the other names, rising."""
    return tuple(sorted((naming[row[0]], *row[1:]) for row in rows))


def turned(row, turn):
    """A row of something for each stuff, the stuffs in another order."""
    return tuple(row[stuff] for stuff in turn)


def turned_deed(deed, turn):
    if deed[0] == "comes":
        return (*deed[:3], turned(deed[3], turn), deed[4])
    if deed[0] == "dip":
        return (*deed[:4], turned(deed[4], turn))
    return deed


def turned_book(book, turn):
    return tuple((hour, turned_deed(deed, turn)) for hour, deed in book)


def turned_rows(rows, turn):
    """Rows (NAME, NUMBER, PARTS or SHADE) with the stuffs in another order."""
    return tuple((name, number, turned(last, turn)) for name, number, last in rows)


def some_turn(many, seed):
    turn = list(range(many))
    random.Random(seed).shuffle(turn)
    return turn


def hours_of(book):
    return sorted({0, 9999, *[hour for hour, deed in book]})


class OtherNames(unittest.TestCase):
    def test_books(self):
        for many in MANYS:
            for seed in range(12):
                book, naming = some_book(many, seed), some_naming(seed)
                self.assertEqual(fails_at(many, named_book(book, naming)), fails_at(many, book))
                book = some_standing_book(many, seed, 25)
                for hour in hours_of(book)[::3]:
                    self.hour_alike(many, book, hour, naming)

    def hour_alike(self, many, book, hour, naming):
        other = named_book(book, naming)
        holders, gone = stands_at(many, book, hour)
        put_so = [(naming[name], word, measures, named_rows(content, naming)) for name, word, measures, content in holders]
        self.assertEqual(stands_at(many, other, hour), (tuple(sorted(put_so)), named_rows(gone, naming)))
        self.assertEqual(shelf_at(many, other, hour), named_rows(shelf_at(many, book, hour), naming))
        for name, word, measures, content in holders:
            self.assertEqual(stuffs_of(many, other, hour, naming[name]), stuffs_of(many, book, hour, name))
            self.assertEqual(mix_of(many, other, hour, naming[name]), mix_of(many, book, hour, name))
            if word == "lot":
                told = where_is(many, other, hour, naming[name])
                self.assertEqual(told, named_rows(where_is(many, book, hour, name), naming))
        if hour in dict(book):
            names = [naming[name] for name in reached(many, book, hour)]
            self.assertEqual(reached(many, other, hour), tuple(sorted(names)))

    def test_houses(self):
        for many in MANYS:
            for seed in range(8):
                book, naming = some_standing_book(many, seed, 25), some_naming(seed)
                house, other = house_of(many, book), house_of(many, named_book(book, naming))
                for hour, deed in book:
                    if deed[0] == "comes":
                        righted = (*deed[:3], deed[3][::-1], deed[4])
                        house.right(hour, righted)
                        other.right(hour, named_deed(righted, naming))
                self.assertEqual(other.cloths(), named_rows(house.cloths(), naming))
                self.assertEqual(other.amiss(), named_rows(house.amiss(), naming))

    def test_questions(self):
        for seed in range(80):
            many, shelf, shade = some_question(seed)
            chance = random.Random(seed)
            measures, prices = some_measures(shelf, chance), some_prices(shelf, chance)
            order = chance.sample(range(len(shelf)), len(shelf))
            other = tuple((name, *shelf[at][1:]) for name, at in zip(("ad", "b", "q", "zebra"), order))
            others = tuple(prices[at] for at in order)
            vat = some_vat(many, chance)
            self.assertEqual(nearest(many, other, shade, measures)[0], nearest(many, shelf, shade, measures)[0])
            told = cheapest(many, shelf, shade, measures, prices)[:2]
            self.assertEqual(cheapest(many, other, shade, measures, others)[:2], told)
            answer, told = mend(many, vat, shelf, shade, 99999), mend(many, vat, other, shade, 99999)
            self.assertEqual(answer[:1] if answer[0] == "never" else answer[:2], told[:1] if told[0] == "never" else told[:2])


class StuffsInAnotherOrder(unittest.TestCase):
    def test_books(self):
        for many in MANYS:
            for seed in range(12):
                turn = some_turn(many, seed)
                book = some_book(many, seed)
                self.assertEqual(fails_at(many, turned_book(book, turn)), fails_at(many, book))
                book = some_standing_book(many, seed, 25)
                other = turned_book(book, turn)
                for hour in hours_of(book)[::3]:
                    holders = stands_at(many, book, hour)
                    self.assertEqual(stands_at(many, other, hour), holders)
                    self.assertEqual(shelf_at(many, other, hour), turned_rows(shelf_at(many, book, hour), turn))
                    for name, word, measures, content in holders[0]:
                        stuffs = stuffs_of(many, book, hour, name)
                        self.assertEqual(stuffs_of(many, other, hour, name), turned(stuffs, turn))
                        measures, parts = mix_of(many, book, hour, name)
                        self.assertEqual(mix_of(many, other, hour, name), (measures, turned(parts, turn)))
                    if hour in dict(book):
                        self.assertEqual(reached(many, other, hour), reached(many, book, hour))

    def test_houses(self):
        for many in MANYS:
            for seed in range(8):
                turn = some_turn(many, seed)
                book = some_standing_book(many, seed, 25)
                house, other = house_of(many, book), house_of(many, turned_book(book, turn))
                for hour, deed in book:
                    if deed[0] == "comes":
                        righted = (*deed[:3], deed[3][::-1], deed[4])
                        house.right(hour, righted)
                        other.right(hour, turned_deed(righted, turn))
                self.assertEqual(other.cloths(), house.cloths())
                self.assertEqual(other.amiss(), house.amiss())

    def test_questions(self):
        for seed in range(120):
            many, shelf, shade = some_question(seed)
            chance = random.Random(seed)
            measures, prices, weights = some_measures(shelf, chance), some_prices(shelf, chance), some_weights(many, chance)
            vat, turn = some_vat(many, chance), some_turn(many, seed)
            shelf_so, shade_so, weights_so = turned_rows(shelf, turn), turned(shade, turn), turned(weights, turn)
            vat_so = (vat[0], turned(vat[1], turn))
            here, there = (many, shelf, shade, measures), (many, shelf_so, shade_so, measures)
            self.assertEqual(bound(*there, weights_so), bound(*here, weights))
            self.assertEqual(floor_of(*there, prices, weights_so), floor_of(*here, prices, weights))
            self.assertEqual(more(many, vat_so, shelf_so, shade_so, weights_so), more(many, vat, shelf, shade, weights))
            self.assertEqual(nearest(*there)[0], nearest(*here)[0])
            self.assertEqual(cheapest(*there, prices)[:2], cheapest(*here, prices)[:2])
            answer, told = mend(many, vat, shelf, shade, 99999), mend(many, vat_so, shelf_so, shade_so, 99999)
            self.assertEqual(answer[:1] if answer[0] == "never" else answer[:2], told[:1] if told[0] == "never" else told[:2])
            if measures <= sum(row[1] for row in shelf) and measures <= 12:
                self.assertEqual(by_scale(*there, 1), by_scale(*here, 1))
            leavings, cloths = some_leavings_and_cloths(many, chance, 6)
            pairs = serves(many, turned_rows(leavings, turn), turned_rows(cloths, turn))[0]
            self.assertEqual(len(pairs), len(serves(many, leavings, cloths)[0]))

    def test_papers(self):
        for seed in range(60):
            for claim, paper in some_papers(seed):
                turn = some_turn(claim[1], seed)
                if claim[0] == "served":
                    word, many, leavings, cloths, how = claim
                    claim = (word, many, turned_rows(leavings, turn), turned_rows(cloths, turn), how)
                elif claim[0] in ("near", "cheap"):
                    word, many, shelf, shade, *rest = claim
                    claim = (word, many, turned_rows(shelf, turn), turned(shade, turn), *rest)
                    paper = (paper[0], turned(paper[1], turn))
                else:
                    word, many, vat, shelf, shade, last = claim
                    claim = (word, many, (vat[0], turned(vat[1], turn)), turned_rows(shelf, turn), turned(shade, turn), last)
                    paper = turned(paper, turn) if word == "above" else (paper[0], turned(paper[1], turn))
                self.assertIs(holds(claim, paper), True)


class NeitherMadeNorLost(unittest.TestCase):
    def test_behind_every_deed(self):
        for many in MANYS:
            for seed in range(12):
                book = some_standing_book(many, seed)
                came = {}
                for hour, deed in book:
                    if deed[0] == "comes":
                        came[deed[1]] = deed[4]
                    holders, gone = stands_at(many, book, hour)
                    lying = {lot: Fraction(0) for lot in came}
                    for content in [gone, *[row[3] for row in holders]]:
                        for lot, amount in content:
                            lying[lot] += Fraction(*amount)
                    self.assertEqual(lying, came)
                    for lot, measures in came.items():
                        told = where_is(many, book, hour, lot)
                        self.assertEqual(sum(Fraction(*amount) for name, amount in told), measures)


class InWhateverTurn(unittest.TestCase):
    def test_desks(self):
        for many in MANYS:
            for seed in range(8):
                book = some_standing_book(many, seed, 14)
                straight, late = Desk(many), Desk(many)
                for hour, deed in book:
                    straight.say(row_told(hour, deed))
                waiting = [row_told(hour, deed) for hour, deed in book]
                random.Random(seed).shuffle(waiting)
                while waiting:
                    row = waiting.pop(0)
                    try:
                        late.say(row)
                    except Fails:
                        waiting.append(row)
                rows = ["book"]
                for hour in hours_of(book)[::2]:
                    for name, word, measures, content in stands_at(many, book, hour)[0]:
                        rows.append(f"what {hour} {name}")
                        rows += [f"where {hour} {name}"] if word == "lot" else []
                self.assertEqual([late.say(row) for row in rows], [straight.say(row) for row in rows])


class NothingElseIsMoved(unittest.TestCase):
    def test_entered_late_struck_and_put_right(self):
        changed = 0
        for many in MANYS:
            for seed in range(40):
                book = some_standing_book(many, seed, 20)
                chance = random.Random(seed)
                hour, deed = chance.choice(book)
                house = house_of(many, book)
                ahead = {at: house.stands(at)[0] for at in hours_of(book)}
                names = set(reached(many, book, hour))
                try:
                    if seed % 2:
                        house.strike(hour)
                    else:
                        house.right(hour, self.otherwise(deed, chance))
                        names |= set(reached(many, house.book(), hour))
                except DyeError:
                    continue
                changed += 1
                self.alike(house, ahead, names)
                house.back()
                self.assertEqual({at: house.stands(at)[0] for at in ahead}, ahead)
        self.assertGreater(changed, 20)

    def otherwise(self, deed, chance):
        """The deed with another number of measures."""
        place = {"vat": 2, "drain": 2, "comes": 4}.get(deed[0], 3)
        return (*deed[:place], max(1, deed[place] + chance.choice((-1, 1))), *deed[place + 1:])

    def alike(self, house, ahead, names):
        for at, holders in ahead.items():
            kept = [row for row in holders if row[0] not in names]
            self.assertEqual([row for row in house.stands(at)[0] if row[0] not in names], kept)


class AskedAgain(unittest.TestCase):
    def questions(self, seed):
        """All questions, with right arguments."""
        chance = random.Random(seed)
        many, shelf, shade = some_question(seed)
        measures, prices, weights = some_measures(shelf, chance), some_prices(shelf, chance), some_weights(many, chance)
        vat = some_vat(many, chance)
        leavings, cloths = some_leavings_and_cloths(many, chance, 8)
        book = some_standing_book(many, seed, 20)
        matched, mended = some_match(seed)[:4], some_mended(seed)[:4]
        asked = [(fails_at, many, book), (shelf_at, many, book, 9999), (by_scale, many, shelf, shade, 1, 1)]
        asked += [(stands_at, many, book, hour) for hour, deed in book] + [(reached, many, book, hour) for hour, deed in book]
        asked += [(far, many, shade, stuffs_of(many, book, 9999, row[0])) for row in stands_at(many, book, 9999)[0]]
        asked += [(bound, many, shelf, shade, measures, weights), (floor_of, many, shelf, shade, measures, prices, weights)]
        asked += [(nearest, many, shelf, shade, measures), (cheapest, many, shelf, shade, measures, prices)]
        asked += [(nearest, *matched), (cheapest, *matched, some_prices(matched[1], chance)), (mend, *mended, 99999)]
        asked += [(more, many, vat, shelf, shade, weights), (mend, many, vat, shelf, shade, 99999), (serves, many, leavings, cloths)]
        asked += [(paper_near, *matched), (paper_cheap, many, shelf, shade, measures, prices), (paper_mend, *mended, 99999)]
        asked += [(paper_served, many, leavings, cloths)] + [(holds, *pair) for pair in some_papers(seed)]
        return asked

    def test_behind_all_other_questions(self):
        for seed in range(12):
            asked = self.questions(seed)
            told = [called(*given) for called, *given in asked]
            turn = list(range(len(asked)))
            random.Random(seed).shuffle(turn)
            for at in turn:
                called, *given = asked[at]
                self.assertEqual(called(*given), told[at])
            self.assertEqual(self.questions(seed), asked)


class ThingsThatCompareOddly(unittest.TestCase):
    """What is the same as all, or can't be compared, is refused where it stands, as anything else that is no such thing."""

    SHELF = (("blue", 9, (0, 1)), ("red", 3, (1, 0)))
    EVEN = ((50, 50), (50, 50))
    WEIGHTS = ((0, 1), (0, 1))
    BOOK = ((1, ("vat", "tub", 5)), (2, ("comes", "red", "madder", (1, 1), 5)))

    def questions(self):
        """Each question with right arguments, and by what each of these is refused."""
        mixing, refusals = (2, self.SHELF, self.EVEN, 6), (NoMany, NoShelf, NoShade, NoMeasures)
        mending, mended = (2, (4, (1, 0)), self.SHELF, self.EVEN), (NoMany, NoVat, NoShelf, NoShade)
        told, refused = (2, self.BOOK, 2), (NoMany, NoBook, NoHour)
        return [
            (far, (2, self.EVEN, self.WEIGHTS), (NoMany, NoShade, NoStuffs)),
            (fails_at, told[:2], refused[:2]), (stands_at, told, refused), (shelf_at, told, refused), (reached, told, refused),
            (stuffs_of, (*told, "red"), (*refused, NoName)), (where_is, (*told, "red"), (*refused, NoName)),
            (by_scale, (*mixing, 1), (*refusals, NoStep)), (bound, (*mixing, self.WEIGHTS), (*refusals, NoWeights)),
            (nearest, mixing, refusals), (cheapest, (*mixing, (1, 2)), (*refusals, NoPrices)),
            (floor_of, (*mixing, (1, 2), self.WEIGHTS), (*refusals, NoPrices, NoWeights)),
            (more, (*mending, self.WEIGHTS), (*mended, NoWeights)), (mend, (*mending, 9), (*mended, NoBrim)),
            (serves, (2, self.SHELF, (("silk", 5, self.EVEN),)), (NoMany, NoShelf, NoCloths)),
            (House, (2,), (NoMany,)), (Desk, (2,), (NoMany,)), (Desk(2).say, ("book",), (NoRow,)),
            (House(2).enter, (1, ("vat", "tub", 5)), (NoHour, NoDeed)),
            (house_of(2, self.BOOK).right, (1, ("vat", "tub", 5)), (NoHour, NoDeed)),
            (house_of(2, self.BOOK).strike, (1,), (NoHour,)),
            (house_of(2, self.BOOK).match, (2, self.EVEN, 5, 1), (NoHour, NoShade, NoMeasures, NoStep)),
        ]

    def inside(self, argument, thing):
        """The argument, if it is a tuple, with this thing at each of its places, one deep and deeper."""
        if type(argument) is tuple:
            for at, inner in enumerate(argument):
                for changed in (thing, *self.inside(inner, thing)):
                    yield (*argument[:at], changed, *argument[at + 1:])

    def test_refused(self):
        for called, good, errors in self.questions():
            for at, error in enumerate(errors):
                for thing in (Same(), Sour()):
                    for changed in (thing, *self.inside(good[at], thing)):
                        self.assertRaises(error, called, *good[:at], changed, *good[at + 1:])

    def test_right_arguments_are_not(self):
        for called, good, errors in self.questions():
            self.assertEqual(len(good), len(errors))
            called(*good)


class Failures(unittest.TestCase):
    def test_a_book_that_fails_is_refused_by_all_alike(self):
        found = 0
        for many in MANYS:
            for seed in range(60):
                book = some_book(many, seed)
                failure = failure_as_told(book)
                if failure is None:
                    continue
                found += 1
                hour = book[0][0]
                for called, *given in (
                    (stands_at, many, book, hour), (stuffs_of, many, book, hour, "a"), (mix_of, many, book, hour, "a"),
                    (where_is, many, book, hour, "a"), (shelf_at, many, book, hour), (reached, many, book, hour),
                ):
                    with self.assertRaises(Fails) as caught:
                        called(*given)
                    self.assertEqual((caught.exception.hour, caught.exception.word), failure)
        self.assertGreater(found, 30)


if __name__ == "__main__":
    unittest.main()
