"""Leavings: points 2, 3, 5 and 23, the interface's row `leavings`."""

import copy
import functools
import random
import unittest

from tests.mixings import (
    BAD_SHADES, SHADES, cloths_are_told, leavings_are_told, serves_as_told, some_leavings_and_cloths,
)
from tests.model import MANYS
from tests.things import GREAT, NO_MANYS, put, things
from vatmatch.errors import NoCloths, NoMany, NoShelf
from vatmatch.leavings import serves

EVEN = ((50, 50), (50, 50))
ANY = ((0, 100), (0, 100))
NAMES = ("a", "b", "c", "d", "e", "f", "g", "h", "i")
LEAVING = {2: ("a", 5, (1, 1)), 3: ("a", 5, (1, 1, 1)), 4: ("a", 5, (1, 1, 1, 1))}
CLOTH = {many: ("a", 5, SHADES[many]) for many in MANYS}


def most_pairs(leavings, cloths):
    """As many pairs as can be: all ways are tried, each set of leavings that are left once."""
    @functools.cache
    def most(at, left):
        if at == len(cloths):
            return 0
        best = most(at + 1, left)
        for place in left:
            if serves_as_told(leavings[place], cloths[at]):
                best = max(best, 1 + most(at + 1, left - {place}))
        return best
    return most(0, frozenset(range(len(leavings))))


class ServesCase(unittest.TestCase):
    def check(self, many, leavings, cloths):
        """All that point 23 says of an answer but how many there can be; tells how many PAIRS there are."""
        answer = serves(many, leavings, cloths)
        pairs, cover = answer
        self.assertEqual([type(part) for part in (answer, pairs, cover, *pairs, *cover)], [tuple] * (5 + len(pairs)))
        by_name, of_cloths = {row[0]: row for row in leavings}, {row[0]: row for row in cloths}
        self.assertEqual(list(pairs), sorted(set(pairs)))
        self.assertEqual(len({cloth for cloth, leaving in pairs}), len(pairs))
        self.assertEqual(len({leaving for cloth, leaving in pairs}), len(pairs))
        for cloth, leaving in pairs:
            self.assertTrue(serves_as_told(by_name[leaving], of_cloths[cloth]))
        covering, covered = cover
        self.assertEqual((list(covering), list(covered)), (sorted(set(covering)), sorted(set(covered))))
        self.assertTrue(set(covering) <= set(by_name) and set(covered) <= set(of_cloths))
        self.assertEqual(len(covering) + len(covered), len(pairs))
        for leaving in leavings:
            for cloth in cloths:
                if serves_as_told(leaving, cloth):
                    self.assertTrue(leaving[0] in covering or cloth[0] in covered)
        return len(pairs)


class ByHand(ServesCase):
    def test_none(self):
        for many in MANYS:
            self.assertEqual(serves(many, (), ()), ((), ((), ())))
            self.assertEqual(serves(many, (LEAVING[many],), ()), ((), ((), ())))
            self.assertEqual(serves(many, (), (CLOTH[many],)), ((), ((), ())))

    def test_one_that_serves(self):
        for left in (5, 6, 9999):
            pairs, cover = serves(2, (("tub", left, (1, 1)),), (("silk", 5, EVEN),))
            self.assertEqual(pairs, (("silk", "tub"),))
            self.assertIn(cover, ((("tub",), ()), ((), ("silk",))))

    def test_too_little(self):
        for left in (1, 4):
            self.assertEqual(serves(2, (("tub", left, (1, 1)),), (("silk", 5, EVEN),)), ((), ((), ())))

    def test_of_another_shade(self):
        shade = ((30, 60), (40, 70))
        for parts, count in (((3, 7), 1), ((6, 4), 1), ((2999, 7001), 0), ((6001, 3999), 0), ((0, 1), 0), ((1, 1), 1)):
            self.assertEqual(self.check(2, (("tub", 5, parts),), (("silk", 5, shade),)), count)

    def test_names_alike_in_both(self):
        leavings = (("a", 5, (1, 1)), ("b", 5, (1, 0)))
        cloths = (("a", 5, ((100, 100), (0, 0))), ("b", 5, EVEN))
        self.assertEqual(serves(2, leavings, cloths)[0], (("a", "b"), ("b", "a")))
        self.assertEqual(self.check(2, leavings, cloths), 2)
        self.assertEqual(serves(2, leavings[:1], cloths[1:])[0], (("b", "a"),))
        self.assertEqual(serves(2, leavings[:1], (("a", 5, EVEN),))[0], (("a", "a"),))

    def test_a_cloth_that_gives_way(self):
        # The cloth a could have both, b only the first one.
        leavings = (("x", 9, (1, 1)), ("y", 9, (1, 0)))
        cloths = (("a", 5, ANY), ("b", 5, EVEN))
        self.assertEqual(serves(2, leavings, cloths)[0], (("a", "y"), ("b", "x")))
        self.assertEqual(self.check(2, leavings, cloths), 2)

    def test_one_for_many(self):
        leavings = (("x", 9, (1, 1)), ("y", 9, (1, 0)))
        cloths = tuple((name, 5, EVEN) for name in NAMES[:8])
        self.assertEqual(self.check(2, leavings, cloths), 1)
        self.assertEqual(serves(2, leavings, cloths)[1], (("x",), ()))
        leavings = tuple((name, 9, (1, 1)) for name in NAMES[:8])
        self.assertEqual(serves(2, leavings, (("silk", 5, EVEN),))[1], ((), ("silk",)))

    def test_cover_of_both(self):
        # x serves all cloths, and each of the three others serves silk alone.
        leavings = (("b", 2, (1, 1)), ("c", 2, (1, 1)), ("d", 2, (1, 1)), ("x", 9, (1, 1)))
        cloths = (("linen", 5, EVEN), ("silk", 1, EVEN), ("wool", 5, EVEN))
        self.assertEqual(self.check(2, leavings, cloths), 2)
        self.assertEqual(serves(2, leavings, cloths)[1], (("x",), ("silk",)))

    def test_eight_of_each(self):
        for turned in (0, 1, 3):
            leavings = tuple((name, at + 1, (1, 1)) for at, name in enumerate(NAMES[:8]))
            cloths = tuple((name, (at + turned) % 8 + 1, EVEN) for at, name in enumerate(NAMES[:8]))
            self.assertEqual(self.check(2, leavings, cloths), 8)
        # In a chain of them each cloth but the last gives way to the one behind it.
        shades = [((low, low + 2), (98 - low, 100 - low)) for low in range(0, 16, 2)]
        leavings = tuple((name, 9, (2 * at + 2, 98 - 2 * at)) for at, name in enumerate(NAMES[:8]))
        cloths = tuple((name, 9, shade) for name, shade in zip(NAMES, shades))
        self.assertEqual(self.check(2, leavings, cloths), 8)
        self.assertEqual(self.check(2, leavings[1:], cloths), 7)
        self.assertEqual(self.check(2, leavings[:7], cloths[1:]), 7)


class ByChance(ServesCase):
    def test_held_against_all_ways(self):
        counts = set()
        for seed in range(500):
            chance = random.Random(seed)
            many = chance.choice(MANYS)
            leavings, cloths = some_leavings_and_cloths(many, chance, 5 if seed % 2 else 8)
            count = self.check(many, leavings, cloths)
            self.assertEqual(count, most_pairs(leavings, cloths))
            counts.add(count)
        self.assertTrue({0, 1, 2, 3, 4, 5, 6} <= counts, counts)

    def test_great_parts(self):
        leavings = (("a", 5, (GREAT, GREAT)), ("b", 5, (GREAT, GREAT + 1)), ("c", 5, (1, GREAT)))
        cloths = (("x", 5, EVEN), ("y", 5, ((49, 50), (50, 51))), ("z", 5, ((0, 1), (99, 100))))
        self.assertEqual(serves(2, leavings, cloths)[0], (("x", "a"), ("y", "b"), ("z", "c")))


class Refused(unittest.TestCase):
    def test_no_many(self):
        for many in NO_MANYS:
            for given in (((), ()), ((LEAVING[2],), (CLOTH[2],)), (None, None)):
                self.assertRaises(NoMany, serves, many, *given)

    def no_leavings(self, many, leavings):
        for cloths in ((CLOTH[many],), (), None):
            self.assertRaises(NoShelf, serves, many, leavings, cloths)

    def no_cloths(self, many, cloths):
        for leavings in ((LEAVING[many],), ()):
            self.assertRaises(NoCloths, serves, many, leavings, cloths)

    def test_no_leavings(self):
        for many in MANYS:
            row = LEAVING[many]
            other = put(row, 0, "b")
            for leavings in ([], [row], None, 1, "a", {}, row, (other, row), (row, row), (list(row),), (row[:2],), ((*row, 1),)):
                self.no_leavings(many, leavings)
            for name in ("", "A", "madders", "a1", b"a", 1, None, ("a",)):
                self.no_leavings(many, (put(row, 0, name),))
            for left in (0, -1, 10000, GREAT, True, None, "1", (5, 1), [5]):
                self.no_leavings(many, (put(row, 1, left),))
            for parts in ((0,) * many, (1,) * (many + 1), (1,) * (many - 1), [1] * many, (True,) * many, (-1,) * many, None):
                self.no_leavings(many, (put(row, 2, parts),))

    def test_no_cloths(self):
        for many in MANYS:
            row = CLOTH[many]
            other = put(row, 0, "b")
            for cloths in ([], [row], None, 1, "a", {}, row, (other, row), (row, row), (list(row),), (row[:2],), ((*row, 1),)):
                self.no_cloths(many, cloths)
            for name in ("", "A", "madders", "a1", b"a", 1, None, ("a",)):
                self.no_cloths(many, (put(row, 0, name),))
            for measures in (0, -1, 10000, GREAT, True, None, "1", (5, 1), [5]):
                self.no_cloths(many, (put(row, 1, measures),))
            for shade in [*BAD_SHADES, ((0, 100),) * (many + 1), ((0, 100),) * (many - 1), [(0, 100)] * many]:
                self.no_cloths(many, (put(row, 2, shade),))

    def test_nine(self):
        for many in MANYS:
            leavings = tuple(put(LEAVING[many], 0, name) for name in NAMES)
            cloths = tuple(put(CLOTH[many], 0, name) for name in NAMES)
            serves(many, leavings[:8], cloths[:8])
            self.no_leavings(many, leavings)
            self.no_cloths(many, cloths)

    def test_at_their_ends(self):
        for number in (1, 9999):
            serves(2, (("a", number, (0, 1)),), (("a", number, ANY),))

    def test_of_any_kind(self):
        leavings, cloths = (LEAVING[2], ("b", 6, (0, 3))), (CLOTH[2], ("b", 6, EVEN))
        for thing in things():
            for at in (0, 1):
                for place in range(3):
                    changed = put(leavings, at, put(leavings[at], place, thing))
                    if not leavings_are_told(2, changed):
                        self.assertRaises(NoShelf, serves, 2, changed, cloths)
                    changed = put(cloths, at, put(cloths[at], place, thing))
                    if not cloths_are_told(2, changed):
                        self.assertRaises(NoCloths, serves, 2, leavings, changed)
                self.assertRaises(NoShelf, serves, 2, put(leavings, at, thing), cloths)
                self.assertRaises(NoCloths, serves, 2, leavings, put(cloths, at, thing))
            if thing != ():
                self.assertRaises(NoShelf, serves, 2, thing, cloths)
                self.assertRaises(NoCloths, serves, 2, leavings, thing)


class Unchanged(unittest.TestCase):
    def test_nothing_handed_in_is_changed(self):
        inner = [["a", 1, [1, 1]], {"a": [1]}]
        ahead = copy.deepcopy(inner)
        for thing in (inner, tuple(inner)):
            self.assertRaises(NoMany, serves, thing, thing, thing)
            self.assertRaises(NoShelf, serves, 2, thing, thing)
            self.assertRaises(NoCloths, serves, 2, (LEAVING[2],), thing)
        self.assertEqual(inner, ahead)

    def test_asked_twice_the_same_is_told(self):
        for seed in range(30):
            leavings, cloths = some_leavings_and_cloths(3, random.Random(seed), 8)
            self.assertEqual(serves(3, leavings, cloths), serves(3, leavings, cloths))


if __name__ == "__main__":
    unittest.main()
