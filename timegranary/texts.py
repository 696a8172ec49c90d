"""Texts: labels, wishes, deeds, asks and folds, written and read back."""

from timegranary.askforms import FORMS, check_ask
from timegranary.errors import NoAsk, NoLabels, NoText
from timegranary.folds import lowest
from timegranary.labels import Labels, is_label_text, is_wish
from timegranary.wholes import read_figures, read_whole

MOST_FIGURES = 40
MOST_BRACKETS = 200
NOTHING = "-"
NO_WISHES = "*"


def whole_of(text):
    """The whole number that a text writes, None where it writes none."""
    return read_whole(text, MOST_FIGURES)


def ratio_text(number):
    """The text of a number (top, bottom)."""
    top, bottom = number
    return str(top) if bottom == 1 else f"{top}/{bottom}"


def ratio_of(text):
    """The number (top, bottom) that a text writes, None where it writes none."""
    top_text, stroke, bottom_text = text.partition("/")
    top = whole_of(top_text)
    bottom = whole_of(bottom_text) if stroke else 1
    if top is None or bottom is None or bottom < 1:
        return None
    # Made again it shows what is needless: a bottom of 1, or one that isn't in lowest terms.
    number = lowest(top, bottom)
    return number if ratio_text(number) == text else None


def stretch_text(start, end):
    """The text of a stretch."""
    return f"{start}..{end}"


def stretch_of(text):
    """The start and the end that a text writes, None where it writes none."""
    start_text, dots, end_text = text.partition("..")
    start = whole_of(start_text)
    end = whole_of(end_text)
    return None if start is None or end is None else (start, end)


def labels_of(text):
    """The labels that a text writes, None where it writes none."""
    if text == NOTHING:
        return Labels()
    parts = [part.partition("=") for part in text.split(",")]
    try:
        labels = Labels([(key, worth) for key, sign, worth in parts])
    except NoLabels:
        return None
    # Made again it shows the keys' order.
    return labels if str(labels) == text else None


def wish_text(wish):
    """The text of a wish."""
    word, key, *rest = wish
    if word == "has":
        return key
    if word == "lacks":
        return f"!{key}"
    if word == "oneof":
        texts = "|".join(rest[0])
        return f"{key}=({texts})"
    signs = {"is": "=", "isnt": "!=", "begins": "^"}
    return f"{key}{signs[word]}{rest[0]}"


def loose_wish(text):
    """The wish that a text writes, something else where it writes none."""
    if text.startswith("!"):
        return "lacks", text[1:]
    for word, sign in (("isnt", "!="), ("begins", "^"), ("is", "=")):
        key, found_sign, behind = text.partition(sign)
        if found_sign and word == "is" and behind.startswith("(") and behind.endswith(")"):
            return "oneof", key, tuple(behind[1:-1].split("|")) if behind != "()" else ()
        if found_sign:
            return word, key, behind
    return "has", text


def wishes_text(wishes):
    """The text of wishes."""
    return " ".join([wish_text(wish) for wish in wishes]) or NO_WISHES


def wishes_of(text):
    """The wishes that a text writes, None where it writes none."""
    if text == NO_WISHES:
        return []
    wishes = [loose_wish(part) for part in text.split(" ")]
    return wishes if all([is_wish(wish) for wish in wishes]) else None


def row_text(row):
    """The text of labels, a time and a worth."""
    labels, time, worth = row
    return f"{labels} {time} {worth}"


def row_of(words):
    """The labels, time and worth that three words write, None where they write none."""
    labels = labels_of(words[0])
    time = whole_of(words[1])
    worth = whole_of(words[2])
    return None if labels is None or time is None or worth is None else (labels, time, worth)


def deed_text(deed):
    """The text of a deed."""
    if deed[0] == "all":
        return " ".join([f"all {len(deed[1])}"] + [row_text(row) for row in deed[1]])
    if deed[0] == "strike":
        return f"strike {stretch_text(deed[2], deed[3])} {wishes_text(deed[1])}"
    return " ".join([str(part) for part in deed])


def put_of(words):
    """The put that words write, None where they write none."""
    row = row_of(words[1:]) if len(words) == 4 else None
    return None if row is None else ("put", *row)


def all_of(words):
    """The put of several rows that words write, None where they write none."""
    many = read_figures(words[1], MOST_FIGURES) if len(words) > 1 else None
    if many is None or len(words) != 2 + 3 * many:
        return None
    rows = [row_of(words[at:at + 3]) for at in range(2, len(words), 3)]
    return ("all", rows) if all([row is not None for row in rows]) else None


def strike_of(words):
    """The strike that words write, None where they write none."""
    if len(words) < 3:
        return None
    stretch = stretch_of(words[1])
    wishes = wishes_of(" ".join(words[2:]))
    return None if stretch is None or wishes is None else ("strike", wishes, *stretch)


def numbered_of(words):
    """The deed of a word and a number that words write, None where they write none."""
    number = whole_of(words[1]) if len(words) == 2 else None
    return None if number is None else (words[0], number)


def flush_of(words):
    """The flush that words write, None where they write none."""
    return ("flush",) if len(words) == 1 else None


DEEDS = {
    "put": put_of, "all": all_of, "strike": strike_of, "expire": numbered_of, "forget": numbered_of,
    "flush": flush_of,
}


def deed_of(text):
    """The deed that a text writes, None where it writes none."""
    words = text.split(" ")
    if words[0] not in DEEDS:
        return None
    reader = DEEDS[words[0]]
    return reader(words)


def part_text(kind, part):
    """The text of a part of an ask that is no ask itself."""
    if kind == "wishes":
        return wishes_text(part)
    if kind == "keys":
        return "+".join(part) or NOTHING
    return ratio_text(part) if kind == "number" else str(part)


def keys_of(text):
    """The keys that a text writes, None where it writes none."""
    if text == NOTHING:
        return ()
    keys = tuple(text.split("+"))
    return keys if all([is_label_text(key) for key in keys]) else None


def part_of(kind, text):
    """The part of an ask that a text writes, None where it writes none; whether a word fits isn't looked at."""
    if kind == "wishes":
        return wishes_of(text)
    if kind == "keys":
        return keys_of(text)
    if kind == "number":
        return ratio_of(text)
    return whole_of(text) if kind in ("many", "by") else text


def ask_text(ask):
    """The text of an ask."""
    texts = []
    for kind, part in zip(FORMS[ask[0]], ask[1:]):
        texts.append(ask_text(part) if kind == "ask" else part_text(kind, part))
    inner = ", ".join(texts)
    return f"{ask[0]}({inner})"


def split_parts(text):
    """The parts of a text between which a comma and a blank stand outside of all brackets."""
    parts = []
    part = ""
    depth = 0
    for piece in text.split(", "):
        part = piece if depth == 0 else f"{part}, {piece}"
        depth += piece.count("(") - piece.count(")")
        if depth == 0:
            parts.append(part)
    # What stays out of balance is no part of an ask, and is refused as what it is taken for.
    return parts if depth == 0 else [*parts, part]


def loose_ask(text):
    """The ask that a text writes, None or what is no ask where it writes none."""
    word, bracket, behind = text.partition("(")
    parts = split_parts(behind[:-1])
    if word not in FORMS or not behind.endswith(")") or len(parts) != len(FORMS[word]):
        return None
    told = [word]
    for kind, part in zip(FORMS[word], parts):
        thing = loose_ask(part) if kind == "ask" else part_of(kind, part)
        if thing is None:
            return None
        told.append(thing)
    return tuple(told)


def most_brackets(text):
    """How many brackets of a text are open at once at the most."""
    depth = 0
    most = 0
    for sign in text:
        if sign == "(":
            depth += 1
            most = max(most, depth)
        elif sign == ")":
            depth -= 1
    return most


def ask_of(text):
    """The ask that a text writes, None where it writes none."""
    ask = loose_ask(text) if most_brackets(text) <= MOST_BRACKETS else None
    try:
        check_ask(ask)
    except NoAsk:
        return None
    return ask


def point_text(point):
    """The text of a point, or of None."""
    return NOTHING if point is None else f"{point[0]}:{point[1]}"


def text_or_nothing(thing):
    """The text of a whole number, or of None."""
    return NOTHING if thing is None else str(thing)


def fold_text(fold):
    """The text of a fold."""
    return " ".join([
        str(fold.count), str(fold.total), str(fold.squares), text_or_nothing(fold.least),
        text_or_nothing(fold.greatest), point_text(fold.first), point_text(fold.last), str(fold.rise), str(fold.held),
    ])


def read_labels(text):
    """The labels of a text."""
    labels = labels_of(text)
    if labels is None:
        raise NoText(text)
    return labels


def read_wishes(text):
    """The wishes of a text."""
    wishes = wishes_of(text)
    if wishes is None:
        raise NoText(text)
    return wishes


def read_deed(text):
    """The deed of a text."""
    deed = deed_of(text)
    if deed is None:
        raise NoText(text)
    return deed


def read_ask(text):
    """The ask of a text."""
    ask = ask_of(text)
    if ask is None:
        raise NoText(text)
    return ask
