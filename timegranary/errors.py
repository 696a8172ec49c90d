"""The refusals: each says by its fields what was refused."""


class NoLabels(ValueError):
    """A key or a text, at, that labels can't have."""

    def __init__(self, at):
        ValueError.__init__(self, "no key or text of labels")
        self.at = at


class NoWish(ValueError):
    """A list of wishes with a thing at the place at that is none."""

    def __init__(self, at):
        ValueError.__init__(self, "no wish")
        self.at = at


class NoSeries(KeyError):
    """A place, or labels, at, of no series."""

    def __init__(self, at):
        KeyError.__init__(self, "no such series")
        self.at = at


class NoOrder(ValueError):
    """Points of which the one at the place at isn't behind the one ahead."""

    def __init__(self, at):
        ValueError.__init__(self, "no rising order")
        self.at = at


class NoWhat(ValueError):
    """A word, at, that asks a fold for nothing."""

    def __init__(self, at):
        ValueError.__init__(self, "no word of what to ask")
        self.at = at


class NoBits(ValueError):
    """Bits that can't be read on from the place at."""

    def __init__(self, at):
        ValueError.__init__(self, "no such bits")
        self.at = at


class NoPlace(IndexError):
    """A place, at, that a column hasn't."""

    def __init__(self, at):
        IndexError.__init__(self, "no such place")
        self.at = at


class NoBlock(ValueError):
    """A text that is no block's, by its line at the place at."""

    def __init__(self, at):
        ValueError.__init__(self, "no text of a block")
        self.at = at


class NoLog(ValueError):
    """A text that is no log's, by its line at the place at."""

    def __init__(self, at):
        ValueError.__init__(self, "no text of a log")
        self.at = at


class NoBody(ValueError):
    """A body with a sign that a line can't have."""

    def __init__(self, body):
        ValueError.__init__(self, "no body of a line")
        self.body = body


class NoDeed(RuntimeError):
    """A deed asked for while another one is under way."""


class NoGrain(ValueError):
    """A width, or the place of one, at, that can't be a grain's."""

    def __init__(self, at):
        ValueError.__init__(self, "no such grain")
        self.at = at


class NoKeep(ValueError):
    """Keeps of which the one at the place at is wrong or lacking."""

    def __init__(self, at):
        ValueError.__init__(self, "no such keep")
        self.at = at


class NoNumber(LookupError):
    """A number of no deed that is known."""

    def __init__(self, number):
        LookupError.__init__(self, "no number that is known")
        self.number = number


class TooLate(ValueError):
    """A time below the horizon of the points."""

    def __init__(self, time, horizon):
        ValueError.__init__(self, "a time below the horizon")
        self.time = time
        self.horizon = horizon


class Gone(LookupError):
    """What was let go: of the labels (or None), from the time at."""

    def __init__(self, labels, at):
        LookupError.__init__(self, "let go")
        self.labels = labels
        self.at = at


class NoAsk(ValueError):
    """A thing, at, that is no ask."""

    def __init__(self, at):
        ValueError.__init__(self, "no ask")
        self.at = at


class NoText(ValueError):
    """A text, at, that can't be read."""

    def __init__(self, at):
        ValueError.__init__(self, "no such text")
        self.at = at


class NoHouse(ValueError):
    """A thing, at, that is no house's name."""

    def __init__(self, at):
        ValueError.__init__(self, "no name of a house")
        self.at = at


class Clash(ValueError):
    """A stamp that another deed bears already."""

    def __init__(self, stamp):
        ValueError.__init__(self, "another deed has the stamp")
        self.stamp = stamp
