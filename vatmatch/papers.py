"""The house's papers: for each question the claim that is true, and the paper with which the checker takes it."""

from vatmatch.cheapest import cheapest
from vatmatch.leavings import serves
from vatmatch.mending import mend
from vatmatch.nearest import nearest


def paper_near(many, shelf, shade, measures):
    """(claim, paper) of the nearest mixing (NoMany, NoShelf, NoShade, NoMeasures, TooLittle)."""
    distance, amounts, weights = nearest(many, shelf, shade, measures)
    return (("near", many, shelf, shade, measures, distance), (amounts, weights))


def paper_cheap(many, shelf, shade, measures, prices):
    """(claim, paper) of the cheapest match, or of the nearest mixing where there is no match.

    Refused with NoMany, NoShelf, NoShade, NoMeasures, NoPrices, TooLittle.
    """
    word, worth, amounts, weights = cheapest(many, shelf, shade, measures, prices)
    if word == "none":
        return (("near", many, shelf, shade, measures, worth), (amounts, weights))
    return (("cheap", many, shelf, shade, measures, prices, worth), (amounts, weights))


def paper_mend(many, vat, shelf, shade, brim):
    """(claim, paper) of the least mending, or that more is needed than there is room or than is left.

    Refused with NoMany, NoVat, NoShelf, NoShade, NoBrim.
    """
    word, *told, weights = mend(many, vat, shelf, shade, brim)
    if word == "never":
        left = sum(row[1] for row in shelf)
        return (("above", many, vat, shelf, shade, left), weights)
    if word == "brim":
        return (("above", many, vat, shelf, shade, brim - vat[0]), weights)
    added, amounts = told
    return (("more", many, vat, shelf, shade, added), (amounts, weights))


def paper_served(many, leavings, cloths):
    """(claim, paper) of how many cloths are served (NoMany, NoShelf, NoCloths)."""
    pairs, cover = serves(many, leavings, cloths)
    return (("served", many, leavings, cloths, len(pairs)), (pairs, cover))
