"""What lies where at an hour of a book: the stuffs and the mix of a holder, a lot's whereabouts, the shelf."""

from vatmatch.errors import NoName
from vatmatch.fractions import NOUGHT, common_divisor, over, over_one_bottom, plus, times
from vatmatch.shades import is_name
from vatmatch.walks import yard_at


def check_holder(yard, name):
    """Refuse with NoName what is no name of a holder that is there."""
    if not is_name(name) or name not in yard.words:
        raise NoName("no lot, vat, jar or cloth of this name is there")


def stuffs_in(many, yard, name):
    """The STUFFS of a holder of the yard: each lot's amount has the lot's parts."""
    stuffs = (NOUGHT,) * many
    for lot, amount in yard.content(name):
        parts = yard.parts[lot]
        share = over(amount, (sum(parts), 1))
        stuffs = tuple(plus(stuff, times(share, (part, 1))) for stuff, part in zip(stuffs, parts))
    return stuffs


def lowest_parts(stuffs):
    """The whole numbers without a common divisor that are to each other as STUFFS are, all 0 where these are."""
    tops, bottom = over_one_bottom(stuffs)
    divisor = 0
    for top in tops:
        divisor = common_divisor(top, divisor)
    if divisor == 0:
        return tuple(tops)
    return tuple(top // divisor for top in tops)


def mix_in(many, yard, name):
    """The (MEASURES, PARTS) of a holder of the yard."""
    return (yard.measures[name], lowest_parts(stuffs_in(many, yard, name)))


def stuffs_of(many, book, hour, name):
    """The STUFFS of a holder at an hour (NoMany, NoBook, Fails, NoHour, NoName)."""
    yard = yard_at(many, book, hour)
    check_holder(yard, name)
    return stuffs_in(many, yard, name)


def mix_of(many, book, hour, name):
    """The (MEASURES, PARTS) of a holder at an hour (NoMany, NoBook, Fails, NoHour, NoName)."""
    yard = yard_at(many, book, hour)
    check_holder(yard, name)
    return mix_in(many, yard, name)


def where_is(many, book, hour, lot):
    """Where a lot lies at an hour: a rising tuple of (NAME, AMOUNT) (NoMany, NoBook, Fails, NoHour, NoName)."""
    yard = yard_at(many, book, hour)
    check_holder(yard, lot)
    if yard.words[lot] != "lot":
        raise NoName("this is the name of something else than a lot")
    return tuple((name, yard.contents[name][lot]) for name in sorted(yard.contents) if lot in yard.contents[name])


def is_on_shelf(yard, name):
    """Whether this is a lot or a jar in which something is."""
    return yard.words[name] in ("lot", "jar") and yard.measures[name] > 0


def shelf_at(many, book, hour):
    """The shelf at an hour: a rising tuple of (NAME, MEASURES, PARTS) (NoMany, NoBook, Fails, NoHour)."""
    yard = yard_at(many, book, hour)
    shelf = []
    for name in sorted(yard.words):
        if is_on_shelf(yard, name):
            measures, parts = mix_in(many, yard, name)
            shelf.append((name, measures, parts))
    return tuple(shelf)
