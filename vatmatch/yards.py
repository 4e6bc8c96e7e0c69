"""The yard: what lies in lots, vats, jars and cloths, and how a deed moves it."""

from vatmatch.fractions import NOUGHT, fraction, minus, plus, times

# The text without signs is no name, so all that was drained can lie under it.
GONE = ""

# What a deed brings, and at which place it has the name of it.
BROUGHT = {"comes": ("lot", 1), "vat": ("vat", 1), "keep": ("jar", 2), "dip": ("cloth", 2)}

# What a deed may take out of; a draw takes out of a stock's lots.
SOURCES = {
    "weigh": ("lot",),
    "draw": (),
    "pour": ("vat", "jar"),
    "keep": ("vat",),
    "dip": ("vat",),
    "drain": ("vat", "jar"),
}

# Deeds that put something into a vat that must be there already.
FILLING = ("weigh", "draw", "pour")


def moved(deed):
    """What a deed of SOURCES moves: out of what, into what, how many measures."""
    if deed[0] == "drain":
        return (deed[1], GONE, deed[2])
    return (deed[1], deed[2], deed[3])


def part_of(content, part):
    """Of each lot the same part."""
    return {lot: times(amount, part) for lot, amount in content.items()}


def without(content, going):
    """What is left of a content, lots of which nothing is left aside."""
    left = {lot: minus(amount, going[lot]) for lot, amount in content.items()}
    return {lot: amount for lot, amount in left.items() if amount != NOUGHT}


def together(content, coming):
    """A content with what comes to it."""
    joined = {lot: amount for lot, amount in content.items()}
    for lot, amount in coming.items():
        joined[lot] = plus(joined.get(lot, NOUGHT), amount)
    return joined


class Yard:
    """What is there behind some deeds; at first nothing is."""

    def __init__(self):
        # Of each lot, vat, jar and cloth which of these it is.
        self.words = {}
        # Of each holder, and of GONE, how many measures are there, and how much of each lot.
        self.measures = {GONE: 0}
        self.contents = {GONE: {}}
        self.brims = {}
        # Of each stock its lots, in the order in which they came.
        self.stocks = {}
        self.parts = {}

    def content(self, name):
        """The CONTENT of a holder, or of GONE: a rising tuple of (LOT, AMOUNT)."""
        return tuple(sorted(self.contents[name].items()))

    def sources(self, word, name):
        """The holders that a deed takes out of, in turn; none where the name isn't of what it must be."""
        if word == "draw":
            return self.stocks.get(name, [])
        return [name] if self.words.get(name) in SOURCES[word] else []

    def fails_by(self, deed):
        """The word by which this deed would fail now, or None."""
        word = deed[0]
        if word in BROUGHT and deed[BROUGHT[word][1]] in self.words:
            return "twice"
        if word not in SOURCES:
            return None
        source, target, measures = moved(deed)
        sources = self.sources(word, source)
        if len(sources) == 0 or (word in FILLING and self.words.get(target) != "vat"):
            return "nothing"
        if sum(self.measures[name] for name in sources) < measures:
            return "less"
        if word in FILLING and self.measures[target] + measures > self.brims[target]:
            return "brim"
        return None

    def do(self, deed):
        """Do a deed that doesn't fail."""
        word = deed[0]
        if word in BROUGHT:
            self.bring(deed)
        if word in SOURCES:
            source, target, measures = moved(deed)
            for name in self.sources(word, source):
                taken = min(measures, self.measures[name])
                self.move(name, target, taken)
                measures -= taken

    def bring(self, deed):
        """Have the new holder of a deed of BROUGHT, with what comes with it."""
        word, place = BROUGHT[deed[0]]
        name = deed[place]
        self.words[name] = word
        self.measures[name] = 0
        self.contents[name] = {}
        if word == "lot":
            self.take_in(deed)
        if word == "vat":
            self.brims[name] = deed[2]

    def take_in(self, deed):
        """Have a lot that comes lie in itself."""
        word, lot, stock, parts, measures = deed
        self.measures[lot] = measures
        self.contents[lot] = {lot: (measures, 1)}
        self.parts[lot] = parts
        self.stocks[stock] = [*self.stocks.get(stock, []), lot]

    def move(self, source, target, measures):
        """Move so many measures out of a holder, of each lot in it the same part."""
        if measures == 0:
            return
        going = part_of(self.contents[source], fraction(measures, self.measures[source]))
        self.contents[source] = without(self.contents[source], going)
        self.contents[target] = together(self.contents[target], going)
        self.measures[source] -= measures
        self.measures[target] += measures
