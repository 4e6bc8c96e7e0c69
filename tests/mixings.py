"""Points 12 and 23 said again, and shelves, shades and measures to ask with, right and wrong."""

import random
from fractions import Fraction

from tests.model import between, name_as_told, some_shade
from tests.things import GREAT, far_as_told, parts_as_told, put, shade_as_told, things

GOOD = {
    2: (("blue", 5, (0, 1)), ("red", 7, (2, 1))),
    3: (("blue", 5, (0, 1, 4)), ("red", 7, (2, 1, 0)), ("weld", 9999, (1, 1, 1))),
    4: (("a", 1, (0, 0, 0, 9)), ("b", 7, (2, 1, 0, 0)), ("c", 12, (1, 1, 1, 0)), ("d", 100, (0, 0, 1, 1))),
}
SHADES = {2: ((30, 60), (40, 70)), 3: ((10, 20), (30, 50), (0, 100)), 4: ((25, 25),) * 4}
BAD_SHADES = [None, (), [(0, 100), (0, 100)], ((0, 40), (0, 59)), ((41, 100), (60, 100)), ((False, 100), (0, 100)), 1, "a"]
BAD_MEASURES = [0, -1, 10000, GREAT, True, False, None, "1", b"1", (1,), [1], {}, (12, 1), len]


def rows_are_told(thing, most, is_third):
    """Whether this is a tuple of at most so many (NAME, NUMBER, THIRD), NAMEs rising, NUMBERs from 1 to 9999."""
    if type(thing) is not tuple or len(thing) > most:
        return False
    last = ""
    for row in thing:
        if type(row) is not tuple or len(row) != 3 or not name_as_told(row[0]) or not row[0] > last:
            return False
        if not between(row[1], 1, 9999) or not is_third(row[2]):
            return False
        last = row[0]
    return True


def shelf_is_told(many, thing):
    """Whether this is a SHELF, by point 12."""
    return rows_are_told(thing, 4, lambda parts: parts_as_told(many, parts)) and len(thing) > 0


def leavings_are_told(many, thing):
    """Whether this is LEAVINGS, by point 23."""
    return rows_are_told(thing, 8, lambda parts: parts_as_told(many, parts))


def cloths_are_told(many, thing):
    """Whether this is CLOTHS, by point 23."""
    return rows_are_told(thing, 8, lambda shade: shade_as_told(many, shade))


def serves_as_told(leaving, cloth):
    """Whether one of LEAVINGS serves a cloth, by point 23."""
    if leaving[1] < cloth[1]:
        return False
    shares = [Fraction(100 * part, sum(leaving[2])) for part in leaving[2]]
    return all(low <= share <= high for share, (low, high) in zip(shares, cloth[2]))


def bad_shelves(many):
    """What is no SHELF of so many stuffs."""
    good = GOOD[many]
    row = good[0]
    wrong = [(), good[::-1], (row, row), [*good], (list(row),), row, (row[:2],), ((*row, 1),), (), None, 1, "a", {}]
    wrong.append(tuple((name, 1, (1,) * many) for name in "abcde"))
    wrong += [(put(row, 0, name),) for name in ("", "A", "madders", "a1", b"a", 1, None, ("a",))]
    wrong += [(put(row, 1, left),) for left in (0, -1, 10000, GREAT, True, None, "1", (5, 1), [5])]
    wrong += [(put(row, 2, parts),) for parts in ((0,) * many, (1,) * (many + 1), (1,) * (many - 1), [1] * many)]
    wrong += [(put(row, 2, put(row[2], 0, part)),) for part in (-1, True, None, "1", (1,))]
    return wrong


def bad_shelves_of_any_kind(many):
    """What is no SHELF, with things of any kind at every place."""
    good = GOOD[many]
    for thing in things():
        yield thing
        for at, row in enumerate(good):
            yield put(good, at, thing)
            for place in range(3):
                changed = put(good, at, put(row, place, thing))
                if not shelf_is_told(many, changed):
                    yield changed


def stuffs_of_mixing(many, shelf, amounts):
    """The STUFFS that amounts bring, as Python's own fractions."""
    together = [Fraction(0)] * many
    for (name, left, parts), amount in zip(shelf, amounts):
        for stuff, part in enumerate(parts):
            together[stuff] += Fraction(amount) * part / sum(parts)
    return together


def far_of_mixing(many, shelf, shade, amounts):
    stuffs = stuffs_of_mixing(many, shelf, amounts)
    return far_as_told(shade, [(stuff.numerator, stuff.denominator) for stuff in stuffs])


def some_exact_shade(many, chance):
    """A shade of which each LOW and HIGH are one number."""
    marks = sorted([0, 100] + [chance.randint(0, 100) for mark in range(many - 1)])
    return tuple((high - low, high - low) for low, high in zip(marks, marks[1:]))


def some_question(seed, great=False):
    """(many, shelf, shade) taken by chance, things with the same PARTS among them."""
    chance = random.Random(seed)
    many = chance.choice((2, 3, 4))
    sizes = (0, 0, 1, 2, 3, 5, 99, chance.randint(0, 10 ** 6))
    if great:
        sizes += (GREAT, GREAT // 3, 10 ** 300 + 1)
    rows = []
    for name in "abcd"[:chance.randint(1, 4)]:
        parts = (0,) * many
        while not any(parts):
            parts = tuple(chance.choice(sizes) for stuff in range(many))
        if rows and chance.random() < 0.15:
            parts = rows[0][2]
        rows.append((name, chance.choice((1, 2, 5, 7, 12, 24, 100, 9999)), parts))
    shade = some_exact_shade(many, chance) if chance.random() < 0.4 else some_shade(many, chance)
    return many, tuple(rows), shade


def some_leavings_and_cloths(many, chance, count):
    """So many leavings or less, and so many cloths or less, of which some serve some, taken by chance."""
    kinds = [tuple(chance.randint(0, 4) for stuff in range(many - 1)) + (1,) for kind in range(3)]
    shades = [((0, 100),) * many, some_shade(many, chance), some_shade(many, chance), some_exact_shade(many, chance)]
    numbers = (1, 5, 6, 9999)
    leavings = [(name, chance.choice(numbers), chance.choice(kinds)) for name in "abcdefgh"[:chance.randint(0, count)]]
    names = sorted(chance.sample(("a", "b", "cloth", "d", "linen", "silk", "wool", "zz", "zzz"), chance.randint(0, count)))
    cloths = [(name, chance.choice(numbers), chance.choice(shades)) for name in names]
    return tuple(leavings), tuple(cloths)
