"""Mixings in whole measures, by a scale."""

from vatmatch.errors import NoStep, TooLittle
from vatmatch.fractions import is_whole, over
from vatmatch.shades import far
from vatmatch.shelves import check_question

MOST_STEPS = 12


def check_step(measures, step):
    """Refuse with NoStep what doesn't go evenly, and at most twelve times, into the measures."""
    if not is_whole(step) or step < 1 or measures % step != 0 or measures // step > MOST_STEPS:
        raise NoStep("STEP goes evenly, and at most twelve times, into M")


def mixings_by_scale(shelf, measures, step):
    """All mixings of which each amount is a multiple of the step."""
    begun = [()]
    for name, left, parts in shelf:
        begun = [
            (*amounts, amount)
            for amounts in begun
            for amount in range(0, min(left, measures - sum(amounts)) + 1, step)
        ]
    return [amounts for amounts in begun if sum(amounts) == measures]


def shares_of(shelf):
    """What a measure of each of the shelf has of each stuff, in whole numbers over one bottom, and this bottom."""
    bottom = 1
    for name, left, parts in shelf:
        bottom *= sum(parts)
    shares = [[part * (bottom // sum(parts)) for part in parts] for name, left, parts in shelf]
    return (shares, bottom)


def stuffs_brought(shares, amounts):
    """The STUFFS that whole amounts bring by their shares, as many times too great as the bottom of the shares is."""
    return tuple((sum(amount * share for amount, share in zip(amounts, row)), 1) for row in zip(*shares))


def best_by_scale(many, shelf, shade, measures, step):
    """The (FAR, AMOUNTS) that by_scale tells, of arguments that it doesn't refuse (TooLittle)."""
    mixings = mixings_by_scale(shelf, measures, step)
    if len(mixings) == 0:
        raise TooLittle("no mixing by this scale can be had of the shelf")
    shares, bottom = shares_of(shelf)
    ranks = []
    for amounts in mixings:
        # So many times the stuffs are so many times as far: these are whole numbers, and compare as such.
        distance = far(many, shade, stuffs_brought(shares, amounts))
        used = len([amount for amount in amounts if amount > 0])
        ranks.append((distance[0], used, tuple(-amount for amount in amounts)))
    distance, used, negatives = min(ranks)
    return (over((distance, 1), (bottom, 1)), tuple(-amount for amount in negatives))


def by_scale(many, shelf, shade, measures, step):
    """(FAR, AMOUNTS) of the best mixing by a scale (NoMany, NoShelf, NoShade, NoMeasures, NoStep, TooLittle)."""
    check_question(many, shelf, shade, measures)
    check_step(measures, step)
    return best_by_scale(many, shelf, shade, measures, step)
