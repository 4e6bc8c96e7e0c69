"""Things of any kind, to be handed in where the document says so, and what the tests say of them."""

import math
from fractions import Fraction

GREAT = 10 ** 499 + 7


class Odd:
    """An object of a class that the program knows nothing of."""


class Same:
    """An object that tells of whatever it is compared with that both are the same."""

    def __eq__(self, other):
        return True

    def __hash__(self):
        return hash("silk")


class Sour:
    """An object that can't be compared with anything."""

    def __eq__(self, other):
        raise AssertionError("this was compared")

    __lt__ = __le__ = __gt__ = __ge__ = __ne__ = __eq__
    __hash__ = None


def atoms():
    """Things that are no tuples, made anew at each call."""
    return [
        -GREAT, -101, -100, -2, -1, 0, 1, 2, 3, 4, 5, 6, 50, 99, 100, 101, GREAT,
        True, False, None, "", "1", "(1, 2)", "ab", b"", b"ab", bytearray(b"ab"),
        [], [0], [1, 2], [1, 1], [1, 2, 3], {}, {1: 2}, {1: 1, 2: 2}, {"a": [1, 2]},
        set(), {1, 2}, frozenset({1, 2}), range(2), range(3), len, int, tuple, Odd, Odd(), ValueError("1"),
        (part for part in (1, 2)), iter((1, 2)), slice(1, 2), ..., NotImplemented,
    ]


def deep(thing, levels):
    """The thing within so many tuples and lists, one in another."""
    for level in range(levels):
        thing = (thing,) if level % 3 == 0 else (thing, thing) if level % 3 == 1 else [thing]
    return thing


def tuples():
    """Tuples of any length, with things of any kind in them, up to twelve deep."""
    few = [-1, 0, 1, 2, 3, 4, 100, GREAT, True, False, None, "1", [1], (), (1,), (1, 1), (1, 2), (0, 1), (2, 4), (1, 0)]
    made = [(), ((),), (((),),)]
    made += [(one,) for one in atoms()]
    made += [(one, two) for one in few for two in few]
    made += [(one, 1) for one in atoms()] + [(1, one) for one in atoms()]
    made += [(one, two, two) for one in few for two in few] + [(one, two, one, two) for one in few for two in few]
    made += [(1,) * length for length in range(8)] + [((0, 100),) * length for length in range(8)]
    made += [((1, 2),) * length for length in range(8)]
    made += [deep(one, levels) for one in (1, True, None, "a", [1, 2], {1: [2]}) for levels in range(1, 13)]
    return made


def things():
    """Things of any kind, tuples among them."""
    return atoms() + tuples()


def put(row, place, thing):
    """The tuple with this thing at this place."""
    return row[:place] + (thing,) + row[place + 1:]


def whole(thing):
    return type(thing) is int


def fraction_as_told(thing):
    """Point 4, said again in other words than the program's."""
    return (
        type(thing) is tuple and len(thing) == 2 and whole(thing[0]) and whole(thing[1])
        and thing[1] >= 1 and math.gcd(thing[0], thing[1]) == 1
    )


def parts_as_told(many, thing):
    """PARTS of point 5, said again."""
    return (
        type(thing) is tuple and len(thing) == many
        and all(whole(part) for part in thing) and min(thing) >= 0 and max(thing) > 0
    )


def shade_as_told(many, thing):
    """SHADE of point 5, said again."""
    if type(thing) is not tuple or len(thing) != many:
        return False
    if not all(type(pair) is tuple and len(pair) == 2 and whole(pair[0]) and whole(pair[1]) for pair in thing):
        return False
    lows, highs = zip(*thing)
    ordered = all(low <= high for low, high in thing)
    return ordered and min(lows) >= 0 and max(highs) <= 100 and sum(lows) <= 100 and sum(highs) >= 100


def stuffs_as_told(many, thing):
    """STUFFS of point 5, said again."""
    return (
        type(thing) is tuple and len(thing) == many
        and all(fraction_as_told(stuff) and stuff[0] >= 0 for stuff in thing)
    )


def far_as_told(shade, stuffs):
    """Point 6, said again with Python's own fractions."""
    parts = [Fraction(*stuff) for stuff in stuffs]
    measures = sum(parts)
    beyond = [max(low * measures - 100 * part, 100 * part - high * measures) for (low, high), part in zip(shade, parts)]
    greatest = max(0, *beyond)
    return (greatest.numerator, greatest.denominator)


NO_MANYS = [
    -GREAT, -2, -1, 0, 1, 5, 6, GREAT, True, False, None, "", "2", "3", b"3", [], [2], [3], {}, {2: 2}, (), (2,), (3, 3),
    {2}, frozenset({2}), range(2), len, int, Odd, deep(2, 12),
]
