"""Points 7 to 10 said again, plainly and in other words than the program's, to hold the program against."""

import functools
import math
import random
import re
from fractions import Fraction

from tests.things import parts_as_told, shade_as_told, whole

MANYS = (2, 3, 4)


def told(number):
    """What the program should tell for this number of Python's own fractions."""
    number = Fraction(number)
    return (number.numerator, number.denominator)


def name_as_told(thing):
    return type(thing) is str and re.fullmatch("[a-z]{1,6}", thing) is not None


def between(thing, low, high):
    return whole(thing) and low <= thing <= high


def deed_as_told(many, thing):
    """Whether this is a deed, by point 7."""
    if type(thing) is not tuple or not thing or type(thing[0]) is not str:
        return False
    word, places = thing[0], thing[1:]
    if word == "comes" and len(places) == 4:
        lot, stock, parts, measures = places
        lot_parts = parts_as_told(many, parts) and max(parts) < 100
        return name_as_told(lot) and name_as_told(stock) and lot_parts and between(measures, 1, 9999)
    if word == "vat" and len(places) == 2:
        return name_as_told(places[0]) and between(places[1], 1, 99999)
    if word == "drain" and len(places) == 2:
        return name_as_told(places[0]) and between(places[1], 1, 9999)
    if word == "dip" and len(places) == 4 and not shade_as_told(many, places[3]):
        return False
    if word == "pour" and len(places) == 3 and places[0] == places[1]:
        return False
    if len(places) == {"weigh": 3, "draw": 3, "pour": 3, "keep": 3, "dip": 4}.get(word):
        return name_as_told(places[0]) and name_as_told(places[1]) and between(places[2], 1, 9999)
    return False


def book_as_told(many, thing):
    """Whether this is a book, by point 7."""
    if type(thing) is not tuple or len(thing) > 40:
        return False
    last = -1
    for row in thing:
        if type(row) is not tuple or len(row) != 2 or not between(row[0], last + 1, 9999):
            return False
        if not deed_as_told(many, row[1]):
            return False
        last = row[0]
    return True


class Model:
    """What is there behind some deeds, in Python's own fractions."""

    def __init__(self):
        self.kind = {}
        self.holds = {"": {}}
        self.brim = {}
        self.lots = []
        self.stock = {}
        self.parts = {}

    def measures(self, name):
        return sum(self.holds[name].values())

    def new(self, name, kind):
        if name in self.kind:
            return "twice"
        self.kind[name] = kind
        self.holds[name] = {}
        return None

    def shift(self, source, target, measures):
        there = self.measures(source)
        for lot, amount in list(self.holds[source].items()):
            gone = amount * Fraction(measures) / there
            self.holds[source][lot] -= gone
            self.holds[target][lot] = self.holds[target].get(lot, 0) + gone
            if self.holds[source][lot] == 0:
                del self.holds[source][lot]

    def do(self, deed):
        """Do the deed, or tell the word by which it fails."""
        return getattr(self, "do_" + deed[0])(*deed[1:])

    def do_comes(self, lot, stock, parts, measures):
        if lot in self.kind:
            return "twice"
        self.new(lot, "lot")
        self.holds[lot] = {lot: Fraction(measures)}
        self.lots.append(lot)
        self.stock[lot] = stock
        self.parts[lot] = parts
        return None

    def do_vat(self, vat, brim):
        if vat in self.kind:
            return "twice"
        self.brim[vat] = brim
        return self.new(vat, "vat")

    def fill(self, sources, vat, measures):
        if not sources or self.kind.get(vat) != "vat":
            return "nothing"
        if sum(self.measures(name) for name in sources) < measures:
            return "less"
        if self.measures(vat) + measures > self.brim[vat]:
            return "brim"
        for name in sources:
            some = min(self.measures(name), measures)
            if some:
                self.shift(name, vat, some)
            measures -= some
        return None

    def do_weigh(self, lot, vat, measures):
        return self.fill([lot] if self.kind.get(lot) == "lot" else [], vat, measures)

    def do_draw(self, stock, vat, measures):
        return self.fill([lot for lot in self.lots if self.stock[lot] == stock], vat, measures)

    def do_pour(self, name, vat, measures):
        return self.fill([name] if self.kind.get(name) in ("vat", "jar") else [], vat, measures)

    def do_keep(self, vat, jar, measures, kind="jar"):
        if jar in self.kind:
            return "twice"
        if self.kind.get(vat) != "vat":
            return "nothing"
        if self.measures(vat) < measures:
            return "less"
        self.new(jar, kind)
        self.shift(vat, jar, measures)
        return None

    def do_dip(self, vat, cloth, measures, shade):
        return self.do_keep(vat, cloth, measures, "cloth")

    def do_drain(self, name, measures):
        if self.kind.get(name) not in ("vat", "jar"):
            return "nothing"
        if self.measures(name) < measures:
            return "less"
        self.shift(name, "", measures)
        return None

    def content(self, name):
        return tuple((lot, told(amount)) for lot, amount in sorted(self.holds[name].items()))

    def stuffs(self, many, name):
        row = [Fraction(0)] * many
        for lot, amount in self.holds[name].items():
            for stuff, part in enumerate(self.parts[lot]):
                row[stuff] += amount * part / sum(self.parts[lot])
        return row


def model_at(book, hour):
    """(the model behind all deeds up to this hour, None), or where one fails (the model, (HOUR, WORD))."""
    model = Model()
    for at, deed in book:
        if at <= hour:
            word = model.do(deed)
            if word is not None:
                return model, (at, word)
    return model, None


def failure_as_told(book):
    return model_at(book, 9999)[1]


def stands_as_told(book, hour):
    model = model_at(book, hour)[0]
    holders = [(name, model.kind[name], model.measures(name), model.content(name)) for name in sorted(model.kind)]
    return tuple(holders), model.content("")


def stuffs_as_reckoned(many, book, hour, name):
    return tuple(told(stuff) for stuff in model_at(book, hour)[0].stuffs(many, name))


def mix_as_told(many, book, hour, name):
    model = model_at(book, hour)[0]
    stuffs = model.stuffs(many, name)
    bottom = math.lcm(*(stuff.denominator for stuff in stuffs))
    tops = [int(stuff * bottom) for stuff in stuffs]
    return int(model.measures(name)), tuple(top // (math.gcd(*tops) or 1) for top in tops)


def where_as_told(book, hour, lot):
    model = model_at(book, hour)[0]
    return tuple((name, told(model.holds[name][lot])) for name in sorted(model.holds) if lot in model.holds[name])


def shelf_as_told(many, book, hour):
    model = model_at(book, hour)[0]
    names = [name for name in sorted(model.kind) if model.kind[name] in ("lot", "jar") and model.measures(name)]
    return tuple((name, *mix_as_told(many, book, hour, name)) for name in names)


def row_told(hour, deed):
    """The row of a deed, as the interface lists it."""
    word, *places = deed
    if word == "comes":
        lot, stock, parts, measures = places
        places = [lot, stock, measures, *parts]
    if word == "dip":
        vat, cloth, measures, shade = places
        places = [vat, cloth, measures, *sum(shade, ())]
    return " ".join(map(str, [hour, word, *places]))


def some_shade(many, chance):
    """A shade, taken by chance."""
    while True:
        shade = tuple(tuple(sorted((chance.randint(0, 100), chance.randint(0, 100)))) for place in range(many))
        if shade_as_told(many, shade):
            return shade


def some_parts(many, chance):
    while True:
        parts = tuple(chance.choice((0, 1, 2, 3, 7, 99, chance.randint(0, 99))) for place in range(many))
        if any(parts):
            return parts


NAMES = ("a", "b", "c", "d", "e", "lot", "vat", "jar", "zz", "cloth")
STOCKS = ("a", "madder", "weld", "vat")


def some_deed(many, chance, names=NAMES):
    """A deed, taken by chance."""
    word = chance.choice(("comes", "comes", "vat", "weigh", "weigh", "draw", "draw", "pour", "keep", "dip", "drain"))
    one, other = chance.sample(names, 2)
    measures = chance.choice((1, 2, 3, 5, 8, 10, 12))
    if word == "comes":
        return (word, one, chance.choice(STOCKS), some_parts(many, chance), chance.choice((1, 3, 10, 30, 50)))
    if word == "vat":
        return (word, one, chance.choice((10, 30, 99999)))
    if word == "draw":
        return (word, chance.choice(STOCKS), other, measures)
    if word == "dip":
        return (word, one, other, measures, some_shade(many, chance))
    if word == "drain":
        return (word, one, measures)
    return (word, one, other, measures)


@functools.cache
def some_standing_book(many, seed, longest=40):
    """A book that stands, taken by chance: each deed is tried behind those that are there."""
    chance = random.Random(seed)
    rows = []
    model = Model()
    hour = chance.randint(0, 3)
    for turn in range(400):
        deed = some_deed(many, chance)
        # A deed that fails leaves the model as it was.
        if len(rows) < longest and model.do(deed) is None:
            rows.append((hour, deed))
            hour += chance.randint(1, 4)
    return tuple(rows)


def some_book(many, seed):
    """A book that may fail: one that stands, with other deeds strewn in or some left out."""
    chance = random.Random(seed)
    rows = dict(some_standing_book(many, seed, 30))
    for turn in range(chance.randint(0, 3)):
        rows[chance.randint(0, 100)] = some_deed(many, chance)
    for hour in chance.sample(sorted(rows), min(len(rows), chance.randint(0, 2))):
        del rows[hour]
    return tuple(sorted(rows.items()))[:40]
