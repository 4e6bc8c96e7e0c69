"""A dyer's house: a book that is entered, struck, put right and taken back, its cloths, and the mixings asked for."""

from vatmatch.books import LAST_HOUR, MOST_DEEDS, is_deed, is_hour
from vatmatch.errors import NoBack, NoDeed, NoHour, NoShelf, TooLittle
from vatmatch.shades import check_many, check_shade, far
from vatmatch.shelves import check_measures, check_shelf
from vatmatch.tracing import shelf_at, stuffs_in
from vatmatch.walks import stands_at, yard_at
from vatmatch.wholes import best_by_scale, check_step


def without_hour(rows, hour):
    """The rows of a book without the one of this hour."""
    return tuple(row for row in rows if row[0] != hour)


def with_deed(rows, hour, deed):
    """The book of these rows and of this deed at this hour, which the rows don't have."""
    return tuple(sorted([*rows, (hour, deed)], key=lambda row: row[0]))


def dips_of(rows):
    """The (HOUR, CLOTH, SHADE) of each dip of a book."""
    return [(hour, deed[2], deed[4]) for hour, deed in rows if deed[0] == "dip"]


def cloths_far(many, rows):
    """For the hour of each dip of a book how far its cloth is from its shade (Fails)."""
    # What is in a cloth stays there, so the last hour tells of all of them what was there behind the dip.
    yard = yard_at(many, rows, LAST_HOUR)
    return {hour: far(many, shade, stuffs_in(many, yard, cloth)) for hour, cloth, shade in dips_of(rows)}


class House:
    """A house of MANY stuffs (NoMany)."""

    def __init__(self, many):
        check_many(many)
        self.many = many
        self.rows = ()
        # For the hour of each dip its THEN.
        self.thens = {}
        # The rows and the THENs ahead of each change that isn't taken back.
        self.past = []
        # The (HOUR, SHADE, M, STEP, THEN) of each mixing that was told.
        self.asked = []

    def has_deed(self, hour):
        """Whether this, of any kind, is an hour at which the book has a deed."""
        return is_hour(hour) and any(row[0] == hour for row in self.rows)

    def check_has_deed(self, hour):
        """Refuse with NoHour what is no hour at which the book has a deed."""
        if not self.has_deed(hour):
            raise NoHour("the book has no deed at this hour")

    def check_deed(self, deed):
        """Refuse with NoDeed what is no deed."""
        if not is_deed(self.many, deed):
            raise NoDeed("this is no deed of so many stuffs")

    def change(self, rows, hour):
        """Have this book, of which the deed at this hour is new or gone (Fails)."""
        fars = cloths_far(self.many, rows)
        thens = {at: then for at, then in self.thens.items() if at != hour}
        if hour in fars:
            thens[hour] = fars[hour]
        self.past.append((self.rows, self.thens))
        self.rows = rows
        self.thens = thens

    def enter(self, hour, deed):
        """Enter a deed at an hour (NoHour, NoDeed, Fails)."""
        if not is_hour(hour) or self.has_deed(hour) or len(self.rows) >= MOST_DEEDS:
            raise NoHour("no deed can be entered at this hour")
        self.check_deed(deed)
        self.change(with_deed(self.rows, hour, deed), hour)

    def strike(self, hour):
        """Strike the deed at an hour (NoHour, Fails)."""
        self.check_has_deed(hour)
        self.change(without_hour(self.rows, hour), hour)

    def right(self, hour, deed):
        """Put another deed, or the same, in the place of the one at an hour (NoHour, NoDeed, Fails)."""
        self.check_has_deed(hour)
        self.check_deed(deed)
        self.change(with_deed(without_hour(self.rows, hour), hour, deed), hour)

    def back(self):
        """Take back the last enter, strike or right that isn't taken back (NoBack)."""
        if len(self.past) == 0:
            raise NoBack("there is nothing to take back")
        self.rows, self.thens = self.past.pop()

    def book(self):
        """The book."""
        return self.rows

    def stands(self, hour):
        """What stands at an hour, (HOLDERS, GONE) (NoHour)."""
        return stands_at(self.many, self.rows, hour)

    def cloths(self):
        """The rising tuple of (CLOTH, THEN, NOW) of all cloths of the book."""
        fars = cloths_far(self.many, self.rows)
        return tuple(sorted((cloth, self.thens[hour], fars[hour]) for hour, cloth, shade in dips_of(self.rows)))

    def amiss(self):
        """Those of cloths of which THEN and NOW are unlike."""
        return tuple(row for row in self.cloths() if row[1] != row[2])

    def mixing(self, hour, shade, measures, step):
        """The (FAR, TAKEN) by the book of now (NoHour, NoShade, NoMeasures, NoStep, NoShelf, TooLittle)."""
        shelf = shelf_at(self.many, self.rows, hour)
        check_shade(self.many, shade)
        check_measures(measures)
        check_step(measures, step)
        check_shelf(self.many, shelf)
        distance, amounts = best_by_scale(self.many, shelf, shade, measures, step)
        taken = tuple((row[0], amount) for row, amount in zip(shelf, amounts) if amount > 0)
        return (distance, taken)

    def mixing_or_none(self, hour, shade, measures, step):
        """The (FAR, TAKEN) by the book of now of what was asked for once, None where it is refused now."""
        try:
            return self.mixing(hour, shade, measures, step)
        except (NoShelf, TooLittle):
            return None

    def match(self, hour, shade, measures, step):
        """Tell and keep the (FAR, TAKEN) (NoHour, NoShade, NoMeasures, NoStep, NoShelf, TooLittle)."""
        found = self.mixing(hour, shade, measures, step)
        self.asked.append((hour, shade, measures, step, found))
        return found

    def matches(self):
        """The (HOUR, SHADE, M, STEP, THEN, NOW) of all that match told, in turn."""
        return tuple(
            (hour, shade, measures, step, then, self.mixing_or_none(hour, shade, measures, step))
            for hour, shade, measures, step, then in self.asked
        )
