"""Folds: what is told of points in sum, without the points."""

from timegranary.errors import NoOrder, NoWhat
from timegranary.wholes import greatest_common

WHATS = ("count", "sum", "least", "greatest", "first", "last", "mean", "spread", "rise", "held")


class Fold:
    """What points come to; made without arguments that of no points."""

    def __init__(
        self, *, count=0, total=0, squares=0, least=None, greatest=None, first=None, last=None, rise=0, held=0
    ):
        self.count = count
        self.total = total
        self.squares = squares
        self.least = least
        self.greatest = greatest
        self.first = first
        self.last = last
        self.rise = rise
        self.held = held

    def __eq__(self, other):
        return (
            isinstance(other, Fold)
            and self.count == other.count
            and self.total == other.total
            and self.squares == other.squares
            and self.least == other.least
            and self.greatest == other.greatest
            and self.first == other.first
            and self.last == other.last
            and self.rise == other.rise
            and self.held == other.held
        )

    def __repr__(self):
        return f"Fold({fields_text(self)})"


def fields_text(fold):
    """The fields of a fold as they are handed in to make it."""
    fields = [
        ("count", fold.count), ("total", fold.total), ("squares", fold.squares), ("least", fold.least),
        ("greatest", fold.greatest), ("first", fold.first), ("last", fold.last), ("rise", fold.rise),
        ("held", fold.held),
    ]
    return ", ".join([f"{name}={field!r}" for name, field in fields])


def risen(ahead, behind):
    """How much a counter rose from one worth to the next."""
    if behind >= ahead:
        return behind - ahead
    # The counter began anew, from 0.
    return max(behind, 0)


def held_between(ahead, behind):
    """The worth of a point times the time up to the next one."""
    return ahead[1] * (behind[0] - ahead[0])


def check_rising(points):
    """Refuse points whose times don't rise."""
    for at in range(1, len(points)):
        if points[at][0] <= points[at - 1][0]:
            raise NoOrder(at)


def fold_of(points):
    """The fold of points with rising times."""
    told = list(points)
    check_rising(told)
    if not told:
        return Fold()
    worths = [worth for time, worth in told]
    return Fold(
        count=len(told),
        total=sum(worths),
        squares=sum([worth * worth for worth in worths]),
        least=min(worths),
        greatest=max(worths),
        first=told[0],
        last=told[-1],
        rise=sum([risen(ahead, behind) for ahead, behind in zip(worths, worths[1:])]),
        held=sum([held_between(ahead, behind) for ahead, behind in zip(told, told[1:])]),
    )


def together(one, two):
    """The fold of the points of two folds, all of the second behind all of the first."""
    if one.count == 0:
        return two
    if two.count == 0:
        return one
    if two.first[0] <= one.last[0]:
        raise NoOrder(0)
    return Fold(
        count=one.count + two.count,
        total=one.total + two.total,
        squares=one.squares + two.squares,
        least=min(one.least, two.least),
        greatest=max(one.greatest, two.greatest),
        first=one.first,
        last=two.last,
        rise=one.rise + risen(one.last[1], two.first[1]) + two.rise,
        held=one.held + held_between(one.last, two.first) + two.held,
    )


def beside(one, two):
    """The fold of the points of two series."""
    # An empty fold has no least and no greatest worth.
    some = [fold for fold in (one, two) if fold.count > 0]
    return Fold(
        count=one.count + two.count,
        total=one.total + two.total,
        squares=one.squares + two.squares,
        least=min([fold.least for fold in some], default=None),
        greatest=max([fold.greatest for fold in some], default=None),
        rise=one.rise + two.rise,
        held=one.held + two.held,
    )


def lowest(top, bottom):
    """The number top by bottom, a bottom above 0, in lowest terms."""
    common = greatest_common(abs(top), bottom)
    return top // common, bottom // common


def worth_asked(fold, what):
    """The least, greatest, first or last worth of a fold, None where it has none."""
    if what == "least":
        return fold.least
    if what == "greatest":
        return fold.greatest
    point = fold.first if what == "first" else fold.last
    return None if point is None else point[1]


def asked(fold, what):
    """What one of the words of WHATS asks of a fold: a number or None."""
    if what not in WHATS:
        raise NoWhat(what)
    sums = {"count": fold.count, "sum": fold.total, "rise": fold.rise, "held": fold.held}
    if what in sums:
        return sums[what], 1
    if fold.count == 0:
        return None
    if what == "mean":
        return lowest(fold.total, fold.count)
    if what == "spread":
        return lowest(fold.squares * fold.count - fold.total * fold.total, fold.count * fold.count)
    worth = worth_asked(fold, what)
    return None if worth is None else (worth, 1)
