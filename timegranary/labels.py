"""Labels of series, wishes that choose labels, and the places of labels."""

from timegranary.errors import NoLabels, NoSeries, NoWish

SIGNS = "abcdefghijklmnopqrstuvwxyz0123456789"
MOST_SIGNS = 20


def is_label_text(thing):
    """Whether a thing may be a key or a text of labels."""
    if not isinstance(thing, str) or not 0 < len(thing) <= MOST_SIGNS:
        return False
    return all([sign in SIGNS for sign in thing])


def rising_pairs(pairs):
    """The pairs of a dict, or of a list or tuple of pairs, by rising keys."""
    told = list(pairs.items()) if isinstance(pairs, dict) else list(pairs)
    # By the keys alone: a text that is none may not have an order.
    return sorted([(key, text) for key, text in told], key=lambda pair: pair[0])


def check_pairs(pairs):
    """Refuse pairs, by rising keys, of which a key or a text is bad or a key comes again."""
    ahead = None
    for key, text in pairs:
        if not is_label_text(key) or key == ahead:
            raise NoLabels(key)
        if not is_label_text(text):
            raise NoLabels(text)
        ahead = key


class Labels:
    """The name of a series: pairs of a key and a text, by rising keys."""

    def __init__(self, pairs=()):
        told = rising_pairs(pairs)
        check_pairs(told)
        self.pairs = tuple(told)

    def __eq__(self, other):
        return isinstance(other, Labels) and self.pairs == other.pairs

    def __len__(self):
        return len(self.pairs)

    def __str__(self):
        if not self.pairs:
            return "-"
        return ",".join([f"{key}={text}" for key, text in self.pairs])

    def __repr__(self):
        return f"Labels({dict(self.pairs)!r})"


def is_wish(thing):
    """Whether a thing is one of the six wishes."""
    if not isinstance(thing, tuple) or len(thing) not in (2, 3):
        return False
    if not is_label_text(thing[1]):
        return False
    if len(thing) == 2:
        return thing[0] in ("has", "lacks")
    return is_wished(thing[0], thing[2])


def is_wished(word, thing):
    """Whether a thing may stand behind the key in a wish of three parts with this word."""
    if word in ("is", "isnt"):
        return is_label_text(thing)
    if word == "begins":
        return thing == "" or is_label_text(thing)
    return word == "oneof" and isinstance(thing, tuple) and all([is_label_text(text) for text in thing])


def check_wishes(wishes):
    """Refuse a list with a thing that is no wish."""
    for at, wish in enumerate(wishes):
        if not is_wish(wish):
            raise NoWish(at)


def meets_wish(texts, wish):
    """Whether texts, a dict by keys, meet a wish."""
    word = wish[0]
    text = texts.get(wish[1])
    if word == "has":
        return text is not None
    if word == "lacks":
        return text is None
    if word == "is":
        return text == wish[2]
    if word == "isnt":
        return text != wish[2]
    if word == "oneof":
        return text in wish[2]
    return text is not None and text.startswith(wish[2])


def meets_all(labels, wishes):
    """Whether labels meet all wishes, which were looked at already."""
    texts = dict(labels.pairs)
    return all([meets_wish(texts, wish) for wish in wishes])


def meets(labels, wishes):
    """Whether labels meet all of a list of wishes."""
    check_wishes(wishes)
    return meets_all(labels, wishes)


class Names:
    """Labels by places, from 0 on."""

    def __init__(self):
        self.kept = []
        self.place_by_pairs = {}

    def add(self, labels):
        """The place of labels, the next one where they are new."""
        if labels.pairs not in self.place_by_pairs:
            self.place_by_pairs[labels.pairs] = len(self.kept)
            self.kept.append(labels)
        return self.place_by_pairs[labels.pairs]

    def place_of(self, labels):
        """The place of labels, None where they have none."""
        return self.place_by_pairs.get(labels.pairs)

    def labels_at(self, place):
        """The labels at a place."""
        # A list would take a place below 0 from its end.
        if not 0 <= place < len(self.kept):
            raise NoSeries(place)
        return self.kept[place]

    def found(self, wishes):
        """The places, rising, of the labels that meet all wishes."""
        check_wishes(wishes)
        return [place for place, labels in enumerate(self.kept) if meets_all(labels, wishes)]

    def key_list(self):
        """The keys that come, rising."""
        return sorted({key for labels in self.kept for key, text in labels.pairs})

    def texts_of(self, key):
        """The texts that come with a key, rising."""
        return sorted({text for labels in self.kept for own_key, text in labels.pairs if own_key == key})
