"""Asks: a small language for numbers over series, window by window."""

from timegranary.askforms import FORMS, asks_within, check_ask
from timegranary.folds import asked
from timegranary.labels import Labels
from timegranary.ratios import SIGNS, greater, is_above, lesser, minus, negative, over, plus, scaled, times


class Frame:
    """Windows side by side, for which something is asked."""

    def __init__(self, start, step, many=1):
        self.start = start
        self.step = step
        self.many = many


def folded(store, ask, frame, number):
    """The answer to a fold."""
    told = store.windows(ask[2], frame.start, step=frame.step, many=frame.many, number=number)
    return [(labels, [asked(fold, ask[1]) for fold in folds]) for labels, folds in told]


def there(numbers):
    """The numbers that aren't None."""
    return [number for number in numbers if number is not None]


def windows_of(rows):
    """Window by window the numbers of rows."""
    return [list(numbers) for numbers in zip(*rows)]


def put_together(what, numbers):
    """What is asked of the numbers of several tracks at one window."""
    some = there(numbers)
    if not some:
        return None
    if what == "count":
        return len(some), 1
    whole = some[0]
    for number in some[1:]:
        if what == "least":
            whole = lesser(whole, number)
        elif what == "greatest":
            whole = greater(whole, number)
        else:
            whole = plus(whole, number)
    return over(whole, (len(some), 1)) if what == "mean" else whole


def answer_by(ask, answers):
    """The answer to a by, of that of the ask within it."""
    word, what, keys, inner = ask
    groups = {}
    for labels, row in answers[0]:
        pairs = tuple([pair for pair in labels.pairs if pair[0] in keys])
        groups.setdefault(pairs, []).append(row)
    return [
        (Labels(pairs), [put_together(what, numbers) for numbers in windows_of(groups[pairs])])
        for pairs in sorted(groups)
    ]


def answer_each(ask, answers):
    """The answer to an each, of that of the ask within it."""
    action = SIGNS[ask[1]]
    told = ask[3]
    return [
        (labels, [None if number is None else action(number, told) for number in row])
        for labels, row in answers[0]
    ]


def of_both(action, one, two):
    """What comes of two numbers, None where one of them is."""
    return None if one is None or two is None else action(one, two)


def answer_both(ask, answers):
    """The answer to a both, of those of the asks within it."""
    action = SIGNS[ask[1]]
    rows = {labels.pairs: row for labels, row in answers[1]}
    return [
        (labels, [of_both(action, one, two) for one, two in zip(row, rows[labels.pairs])])
        for labels, row in answers[0] if labels.pairs in rows
    ]


def filled_last(row):
    """A row with the last number ahead in the place of each None."""
    out = []
    last = None
    for number in row:
        last = last if number is None else number
        out.append(last)
    return out


def filled_straight(row):
    """A row with what lies on the straight line between its neighbours in the place of each None."""
    out = list(row)
    places = [at for at, number in enumerate(row) if number is not None]
    for ahead, behind in zip(places, places[1:]):
        way = minus(row[behind], row[ahead])
        for at in range(ahead + 1, behind):
            out[at] = plus(row[ahead], over(times(way, (at - ahead, 1)), (behind - ahead, 1)))
    return out


def answer_fill(ask, answers):
    """The answer to a fill, of that of the ask within it."""
    if ask[1] == "last":
        return [(labels, filled_last(row)) for labels, row in answers[0]]
    return [(labels, filled_straight(row)) for labels, row in answers[0]]


def answer_above(ask, answers):
    """The answer to an above, of that of the ask within it."""
    least = ask[2]
    return [
        (labels, [None if number is None or not is_above(number, least) else number for number in row])
        for labels, row in answers[0]
    ]


def top_of(many, numbers):
    """The greatest many of the numbers at one window, None in the place of the others."""
    places = [at for at, number in enumerate(numbers) if number is not None]
    sizes = scaled(there(numbers))
    order = sorted([(-size, at) for size, at in zip(sizes, places)])
    staying = {at: True for size, at in order[:many]}
    return [number if at in staying else None for at, number in enumerate(numbers)]


def answer_top(ask, answers):
    """The answer to a top, of that of the ask within it."""
    rows = [row for labels, row in answers[0]]
    columns = [top_of(ask[1], numbers) for numbers in windows_of(rows)]
    return [(labels, [column[at] for column in columns]) for at, (labels, row) in enumerate(answers[0])]


def shifted(row, by):
    """A row, each number as many windows later as told."""
    return [row[at - by] if 0 <= at - by < len(row) else None for at in range(len(row))]


def answer_shift(ask, answers):
    """The answer to a shift, of that of the ask within it."""
    return [(labels, shifted(row, ask[1])) for labels, row in answers[0]]


ACTIONS = {
    "by": answer_by, "each": answer_each, "both": answer_both, "fill": answer_fill, "above": answer_above,
    "top": answer_top, "shift": answer_shift,
}


def answer_of(store, ask, frame, number):
    """The answer to what is an ask, rows of None alone among it."""
    if ask[0] == "fold":
        return folded(store, ask, frame, number)
    answers = []
    for inner in asks_within(ask):
        answers.append(answer_of(store, inner, frame, number))
    action = ACTIONS[ask[0]]
    return action(ask, answers)


def answered(store, ask, frame, *, number=None):
    """The answer of a store to an ask over the windows of a frame, at a number."""
    check_ask(ask)
    return [(labels, row) for labels, row in answer_of(store, ask, frame, number) if there(row)]


def count_parts(ask):
    """Of how many asks what is an ask is made."""
    many = 1
    for inner in asks_within(ask):
        many += count_parts(inner)
    return many


def parts_of(ask):
    """Of how many asks an ask is made, itself with them."""
    check_ask(ask)
    return count_parts(ask)


def fresh(thing):
    """A thing with new lists in the place of its own."""
    if isinstance(thing, list):
        return [fresh(part) for part in thing]
    if isinstance(thing, tuple):
        return tuple([fresh(part) for part in thing])
    return thing


def amount_added(ask):
    """What an each by plus or minus adds."""
    return ask[3] if ask[1] == "plus" else negative(ask[3])


def shorter_each(ask):
    """An each, one right within it taken together with it, or what is within where it changes nothing."""
    word, sign, inner, number = ask
    if sign == "times":
        if inner[0] == "each" and inner[1] == "times":
            number = times(number, inner[3])
            inner = inner[2]
        return inner if number == (1, 1) else ("each", "times", inner, number)
    amount = amount_added(ask)
    if inner[0] == "each" and inner[1] != "times":
        amount = plus(amount, amount_added(inner))
        inner = inner[2]
    return inner if amount == (0, 1) else ("each", "plus", inner, amount)


def shorter_above(ask):
    """An above, one right within it taken together with it."""
    word, inner, number = ask
    if inner[0] != "above":
        return ask
    return "above", inner[1], greater(number, inner[2])


def shorter_top(ask):
    """A top, one right within it taken together with it."""
    word, many, inner = ask
    if inner[0] != "top":
        return ask
    return "top", min(many, inner[1]), inner[2]


def shorter_shift(ask):
    """A shift, one the same way right within it taken together with it, or what is within where it goes nowhere."""
    word, by, inner = ask
    if by == 0:
        return inner
    # What goes out of the frame one way doesn't come back the other way.
    if inner[0] != "shift" or (by > 0) != (inner[1] > 0):
        return ask
    return "shift", by + inner[1], inner[2]


def shorter_fill(ask):
    """A fill, or the one right within it where that has filled the same already."""
    word, way, inner = ask
    return inner if inner[0] == "fill" and inner[1] == way else ask


def shorter_by(ask):
    """A by, one right within it taken together with it where the numbers allow it."""
    word, what, keys, inner = ask
    if inner[0] != "by":
        return ask
    common = tuple([key for key in keys if key in inner[2]])
    if what == inner[1] and what in ("sum", "least", "greatest"):
        return "by", what, common, inner[3]
    if what == "sum" and inner[1] == "count":
        return "by", "count", common, inner[3]
    return ask


SHORTENERS = {
    "each": shorter_each, "above": shorter_above, "top": shorter_top, "shift": shorter_shift, "fill": shorter_fill,
    "by": shorter_by,
}


def shortened(ask):
    """What is an ask, from the inside outwards made shorter where it can be."""
    parts = [ask[0]]
    for kind, part in zip(FORMS[ask[0]], ask[1:]):
        parts.append(shortened(part) if kind == "ask" else fresh(part))
    short = tuple(parts)
    if ask[0] not in SHORTENERS:
        return short
    action = SHORTENERS[ask[0]]
    return action(short)


def shorter(ask):
    """An ask with the same answers and no more parts, in which nothing stands that can be taken together."""
    check_ask(ask)
    return shortened(ask)
