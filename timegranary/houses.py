"""Houses: stores' deeds told from one to another, in any order."""

from timegranary.errors import Clash, NoHouse
from timegranary.labels import check_wishes, is_label_text, meets_all
from timegranary.store import KEEPS, WIDTHS, Store


def told_deed(deed):
    """A deed with a list of wishes of its own."""
    if deed[0] == "put":
        return tuple(deed)
    word, stamp, wishes, start, end = deed
    return word, stamp, list(wishes), start, end


def strikes_out(deed, labels, time):
    """Whether a strike meets a point's labels and time."""
    word, stamp, wishes, start, end = deed
    return start <= time < end and meets_all(labels, wishes)


class House:
    """Deeds that were made here or heard of, by their stamps."""

    def __init__(self, name):
        # A house's name has just the signs that a text of labels has.
        if not is_label_text(name):
            raise NoHouse(name)
        self.name = name
        self.clock = 0
        self.deeds = {}
        # By labels' pairs and times the put with the greatest stamp.
        self.last_puts = {}
        self.strikes = []

    def put(self, labels, time, worth):
        """Put a point by a deed of the house's own; tell the deed and its changes."""
        return self.made(("put", self.next_stamp(), labels, time, worth))

    def strike(self, wishes, start, end):
        """Strike a stretch by a deed of the house's own; tell the deed and its changes."""
        return self.made(("strike", self.next_stamp(), list(wishes), start, end))

    def hear(self, deed):
        """Hear a deed, and tell its changes."""
        own = told_deed(deed)
        if own[0] == "strike":
            check_wishes(own[2])
        stamp = own[1]
        if stamp in self.deeds:
            if self.deeds[stamp] != own:
                raise Clash(stamp)
            return []
        self.deeds[stamp] = own
        self.clock = max(self.clock, stamp[0])
        return self.put_heard(own) if own[0] == "put" else self.strike_heard(own)

    def points(self, labels):
        """The points of labels that are seen."""
        times = sorted([time for pairs, time in self.last_puts if pairs == labels.pairs])
        told = [(time, self.worth_at((labels.pairs, time))) for time in times]
        return [(time, worth) for time, worth in told if worth is not None]

    def series(self):
        """The labels of all puts that were heard, by their pairs."""
        labels_by_pairs = {pairs: self.last_puts[(pairs, time)][2] for pairs, time in self.last_puts}
        return [labels_by_pairs[pairs] for pairs in sorted(labels_by_pairs)]

    def stamps(self):
        """The stamps that were heard, rising."""
        return sorted(self.deeds)

    def letter(self, stamps):
        """The deeds that were heard by other stamps than the told ones."""
        known_stamps = {stamp: True for stamp in stamps}
        return [told_deed(self.deeds[stamp]) for stamp in sorted(self.deeds) if stamp not in known_stamps]

    def next_stamp(self):
        """The stamp of the house's next own deed."""
        return self.clock + 1, self.name

    def made(self, deed):
        """Hear a deed of the house's own; tell it and its changes."""
        changes = self.hear(deed)
        return told_deed(deed), changes

    def worth_at(self, key):
        """The worth that is seen at labels' pairs and a time where a put was heard, None where it was struck."""
        word, stamp, labels, time, worth = self.last_puts[key]
        if any([strike[1] > stamp and strikes_out(strike, labels, time) for strike in self.strikes]):
            return None
        return worth

    def put_heard(self, deed):
        """Take in a put, and tell its changes."""
        word, stamp, labels, time, worth = deed
        key = (labels.pairs, time)
        if key in self.last_puts and self.last_puts[key][1] > stamp:
            return []
        ahead = self.worth_at(key) if key in self.last_puts else None
        self.last_puts[key] = deed
        behind = self.worth_at(key)
        return [] if ahead == behind else [(labels, time, ahead, behind)]

    def strike_heard(self, deed):
        """Take in a strike, and tell its changes."""
        changes = []
        for key in sorted(self.last_puts):
            word, stamp, labels, time, worth = self.last_puts[key]
            if deed[1] > stamp and strikes_out(deed, labels, time):
                ahead = self.worth_at(key)
                if ahead is not None:
                    changes.append((labels, time, ahead, None))
        self.strikes.append(deed)
        return changes


def alike(one, two):
    """Whether two houses heard the same deeds."""
    return one.deeds == two.deeds


def store_of(house, *, widths=WIDTHS, keeps=KEEPS):
    """The store that does a house's deeds in the order of their stamps."""
    store = Store(widths=widths, keeps=keeps)
    for word, stamp, *rest in house.letter([]):
        if word == "put":
            labels, time, worth = rest
            store.put(labels, time, worth)
        else:
            wishes, start, end = rest
            store.strike(wishes, start, end)
    return store
