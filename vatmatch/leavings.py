"""Leavings that serve cloths: as many pairs as can be, and the cover that shows that there can't be more."""

from vatmatch.errors import NoCloths, NoShelf
from vatmatch.fractions import NOUGHT, fraction
from vatmatch.shades import are_rising, check_many, far, is_measures, is_name, is_row_of, is_shade
from vatmatch.shelves import is_shelf_row

MOST_LEAVINGS = 8
MOST_CLOTHS = 8


def check_leavings(many, leavings):
    """Refuse with NoShelf what is no LEAVINGS (NoMany)."""
    check_many(many)
    if not isinstance(leavings, tuple) or len(leavings) > MOST_LEAVINGS:
        raise NoShelf("leavings are a tuple of at most eight")
    if not all(is_shelf_row(many, row) for row in leavings) or not are_rising(leavings):
        raise NoShelf("leavings are as a shelf")


def is_cloth(many, thing):
    """Whether this, of any kind, is one of CLOTHS: (NAME, M, SHADE)."""
    if not is_row_of(3, thing):
        return False
    name, measures, shade = thing
    return is_name(name) and is_measures(measures) and is_shade(many, shade)


def check_cloths(many, cloths):
    """Refuse with NoCloths what is no CLOTHS."""
    if not isinstance(cloths, tuple) or len(cloths) > MOST_CLOTHS:
        raise NoCloths("cloths are a tuple of at most eight")
    if not all(is_cloth(many, row) for row in cloths) or not are_rising(cloths):
        raise NoCloths("each of cloths is a name, its measures and its shade, names rising")


def does_serve(many, leaving, cloth):
    """Whether one of LEAVINGS serves a cloth."""
    name, left, parts = leaving
    cloth_name, measures, shade = cloth
    stuffs = tuple(fraction(measures * part, sum(parts)) for part in parts)
    return left >= measures and far(many, shade, stuffs) == NOUGHT


def find_leaving(servers, cloth_of, tried, cloth):
    """Pair a cloth, with another leaving for other cloths if need be, and tell whether this can be.

    SERVERS has for each cloth what serves it, CLOTH_OF for each leaving its cloth. TRIED gets all leavings that were
    tried: none of them is tried twice.
    """
    for leaving in servers[cloth]:
        if leaving not in tried:
            tried[leaving] = True
            if leaving not in cloth_of or find_leaving(servers, cloth_of, tried, cloth_of[leaving]):
                cloth_of[leaving] = cloth
                return True
    return False


def cover_of(servers, cloth_of, unpaired):
    """The COVER, by the cloths for which no leaving was found.

    What is tried for these is paired, each with a cloth for which all that serves it is tried, too: else another cloth
    could be paired. So whatever isn't tried serves only cloths that are paired with something that isn't tried.
    """
    tried = {}
    for cloth in unpaired:
        find_leaving(servers, cloth_of, tried, cloth)
    cloths = [cloth for leaving, cloth in cloth_of.items() if leaving not in tried]
    return (tuple(sorted(tried)), tuple(sorted(cloths)))


def serves(many, leavings, cloths):
    """(PAIRS, COVER) of leavings and cloths (NoMany, NoShelf, NoCloths)."""
    check_leavings(many, leavings)
    check_cloths(many, cloths)
    servers = {
        cloth[0]: [leaving[0] for leaving in leavings if does_serve(many, leaving, cloth)] for cloth in cloths
    }
    cloth_of = {}
    unpaired = []
    for name, measures, shade in cloths:
        # A cloth for which nothing is found stays without, whatever other cloths are paired behind it.
        if not find_leaving(servers, cloth_of, {}, name):
            unpaired.append(name)
    pairs = sorted((cloth, leaving) for leaving, cloth in cloth_of.items())
    return (tuple(pairs), cover_of(servers, cloth_of, unpaired))
