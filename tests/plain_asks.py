"""The answers to asks, written with fractions; a plain model beside the program."""

from fractions import Fraction

from timegranary.labels import Labels


def plain_what(fold, what):
    worths = {
        "count": fold.count, "sum": fold.total, "rise": fold.rise, "held": fold.held, "least": fold.least,
        "greatest": fold.greatest, "first": fold.first and fold.first[1], "last": fold.last and fold.last[1],
    }
    if what in worths:
        return None if worths[what] is None else Fraction(worths[what])
    if fold.count == 0:
        return None
    mean = Fraction(fold.total, fold.count)
    return mean if what == "mean" else Fraction(fold.squares, fold.count) - mean * mean


def plain_by(what, numbers):
    numbers = [number for number in numbers if number is not None]
    if not numbers:
        return None
    return {
        "count": Fraction(len(numbers)), "sum": sum(numbers), "least": min(numbers), "greatest": max(numbers),
        "mean": sum(numbers) / len(numbers),
    }[what]


def plain_sign(word, one, two):
    if one is None or two is None or (word == "over" and two == 0):
        return None
    if word == "plus":
        return one + two
    if word == "minus":
        return one - two
    return one * two if word == "times" else one / two


def plain_fill(word, row):
    out = []
    for at, number in enumerate(row):
        ahead = [k for k in range(at) if row[k] is not None]
        behind = [k for k in range(at + 1, len(row)) if row[k] is not None]
        if number is None and word == "last" and ahead:
            number = row[ahead[-1]]
        elif number is None and word == "straight" and ahead and behind:
            i, j = ahead[-1], behind[0]
            number = row[i] + (row[j] - row[i]) * Fraction(at - i, j - i)
        out.append(number)
    return out


def plain_rows(windows, ask, frame):
    """By labels' pairs the row of fractions or None; windows tells of wishes what a store's windows do."""
    word = ask[0]
    if word == "fold":
        return {labels.pairs: [plain_what(fold, ask[1]) for fold in folds] for labels, folds in windows(ask[2], frame)}
    if word == "both":
        one = plain_rows(windows, ask[2], frame)
        two = plain_rows(windows, ask[3], frame)
        return {
            pairs: [plain_sign(ask[1], u, v) for u, v in zip(one[pairs], two[pairs])] for pairs in one if pairs in two
        }
    rows = plain_rows(windows, [part for part in ask[1:] if is_inner(part)][0], frame)
    if word == "by":
        groups = {}
        for pairs, row in rows.items():
            groups.setdefault(tuple(pair for pair in pairs if pair[0] in ask[2]), []).append(row)
        return {pairs: [plain_by(ask[1], numbers) for numbers in zip(*group)] for pairs, group in groups.items()}
    if word == "each":
        told = Fraction(*ask[3])
        return {pairs: [plain_sign(ask[1], number, told) for number in row] for pairs, row in rows.items()}
    if word == "fill":
        return {pairs: plain_fill(ask[1], row) for pairs, row in rows.items()}
    if word == "above":
        told = Fraction(*ask[2])
        return {
            pairs: [number if number is not None and number > told else None for number in row]
            for pairs, row in rows.items()
        }
    if word == "top":
        out = {pairs: [None] * frame.many for pairs in rows}
        for at in range(frame.many):
            order = [(-rows[pairs][at], pairs) for pairs in rows if rows[pairs][at] is not None]
            for size, pairs in sorted(order)[:ask[1]]:
                out[pairs][at] = -size
        return out
    return {
        pairs: [row[at - ask[1]] if 0 <= at - ask[1] < frame.many else None for at in range(frame.many)]
        for pairs, row in rows.items()
    }


def is_inner(part):
    return isinstance(part, tuple) and len(part) > 1 and part[0] in (
        "fold", "both", "by", "each", "fill", "above", "top", "shift",
    )


def plain_answer(windows, ask, frame):
    rows = plain_rows(windows, ask, frame)
    return [
        (Labels(pairs), [None if number is None else (number.numerator, number.denominator) for number in rows[pairs]])
        for pairs in sorted(rows) if any(number is not None for number in rows[pairs])
    ]
