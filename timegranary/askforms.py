"""The forms of asks: of what parts each one is made."""

from timegranary.errors import NoAsk
from timegranary.folds import WHATS
from timegranary.ratios import is_ratio
from timegranary.wholes import is_whole

# By each ask's first word the kinds of the parts behind it.
FORMS = {
    "fold": ("what", "wishes"),
    "by": ("what of tracks", "keys", "ask"),
    "each": ("word of each", "ask", "number"),
    "both": ("word of both", "ask", "ask"),
    "fill": ("word of fill", "ask"),
    "above": ("ask", "number"),
    "top": ("many", "ask"),
    "shift": ("by", "ask"),
}
# The words that a part of one of these kinds may be.
WORDS = {
    "what of tracks": ("count", "sum", "least", "greatest", "mean"),
    "word of each": ("plus", "minus", "times"),
    "word of both": ("plus", "minus", "times", "over"),
    "word of fill": ("last", "straight"),
}


def are_keys(thing):
    """Whether a thing is a tuple of unlike texts."""
    if not isinstance(thing, tuple) or not all([isinstance(key, str) for key in thing]):
        return False
    return len(set(thing)) == len(thing)


def fits(kind, part):
    """Whether a part may stand where one of this kind has to; asks and wishes aren't looked at."""
    if kind == "what":
        return part in WHATS
    if kind in WORDS:
        return part in WORDS[kind]
    if kind == "number":
        return is_ratio(part)
    if kind == "keys":
        return are_keys(part)
    if kind == "many":
        return is_whole(part) and part >= 1
    return kind != "by" or is_whole(part)


def has_form(thing):
    """Whether a thing is an ask but for the asks within it."""
    if not isinstance(thing, tuple) or len(thing) == 0 or not isinstance(thing[0], str):
        return False
    kinds = FORMS.get(thing[0])
    if kinds is None or len(thing) != 1 + len(kinds):
        return False
    return all([fits(kind, part) for kind, part in zip(kinds, thing[1:])])


def asks_within(ask):
    """The asks right within an ask, in order."""
    return [part for kind, part in zip(FORMS[ask[0]], ask[1:]) if kind == "ask"]


def check_ask(thing):
    """Refuse what is no ask, from the outside inwards."""
    if not has_form(thing):
        raise NoAsk(thing)
    for inner in asks_within(thing):
        check_ask(inner)
