"""The plain model of a store: it keeps every point known behind every deed, and tells what a store has to tell.

Nothing here uses the program but for its refusals, Labels and Fold, in which answers are told.
"""

from timegranary.errors import Gone, NoNumber, NoSeries, TooLate
from timegranary.folds import Fold


def plain_fold(points):
    """The fold of a list of points by rising times, field by field."""
    worths = [worth for time, worth in points]
    rise = 0
    held = 0
    for (one_time, one), (two_time, two) in zip(points, points[1:]):
        held += one * (two_time - one_time)
        if two >= one:
            rise += two - one
        elif two > 0:
            rise += two
    return Fold(
        count=len(points), total=sum(worths), squares=sum(worth ** 2 for worth in worths),
        least=min(worths, default=None), greatest=max(worths, default=None),
        first=points[0] if points else None, last=points[-1] if points else None, rise=rise, held=held,
    )


def plain_meets(pairs, wishes):
    """Whether labels' pairs meet wishes."""
    table = dict(pairs)
    for wish in wishes:
        has = wish[1] in table
        text = table.get(wish[1])
        met = {
            "is": lambda: has and text == wish[2], "isnt": lambda: not has or text != wish[2],
            "oneof": lambda: has and text in wish[2], "begins": lambda: has and text[:len(wish[2])] == wish[2],
            "has": lambda: has, "lacks": lambda: not has,
        }[wish[0]]()
        if not met:
            return False
    return True


def below(time, horizon):
    return horizon is not None and time < horizon


def floor_to(time, width):
    return time // width * width


class Model:
    def __init__(self, widths, keeps):
        self.widths = widths
        self.keeps = keeps
        self.horizons = (None,) * len(keeps)
        self.forgotten = 0
        self.edge_number = 0
        # By number: a dict from labels' pairs to a dict from times to worths; series stay once they stand.
        self.tables = [{}]
        self.labels = {}
        self.cell_cache = {}

    @property
    def number(self):
        return len(self.tables) - 1

    # Deeds.

    def put_all(self, rows):
        for labels, time, worth in rows:
            if below(time, self.horizons[0]):
                raise TooLate(time, self.horizons[0])
        table = {pairs: dict(worths) for pairs, worths in self.tables[-1].items()}
        for labels, time, worth in rows:
            self.labels[labels.pairs] = labels
            table.setdefault(labels.pairs, {})[time] = worth
        return self.done(table)

    def put(self, labels, time, worth):
        return self.put_all([(labels, time, worth)])

    def strike(self, wishes, start, end):
        if start < end and below(start, self.horizons[0]):
            raise TooLate(start, self.horizons[0])
        table = {}
        for pairs, worths in self.tables[-1].items():
            met = plain_meets(pairs, wishes)
            table[pairs] = {
                time: worth for time, worth in worths.items() if not (met and start <= time < end)
            }
        return self.done(table)

    def done(self, table):
        old = self.tables[-1]
        self.tables.append(table)
        changes = []
        for pairs in sorted(table):
            ahead = old.get(pairs, {})
            behind = table[pairs]
            times = [time for time in {**ahead, **behind} if ahead.get(time) != behind.get(time)]
            for width in self.widths:
                for start in sorted({floor_to(time, width) for time in times}):
                    one = self.plain_cell(pairs, width, start, self.number - 1)
                    two = self.plain_cell(pairs, width, start, self.number)
                    if one != two:
                        changes.append((self.labels[pairs], width, start, one, two))
        return changes

    def expire(self, now):
        steps = self.widths + self.widths[-1:]
        horizons = []
        for horizon, keep, step in zip(self.horizons, self.keeps, steps):
            reached = None if keep is None else floor_to(now - keep, step)
            horizons.append(reached if horizon is None else max(horizon, reached))
        if horizons[0] != self.horizons[0]:
            self.edge_number = self.number
        self.horizons = tuple(horizons)
        return self.horizons

    def forget(self, number):
        if number > self.number:
            raise NoNumber(number)
        self.forgotten = max(self.forgotten, number)

    # What is known.

    def all_points(self, pairs, number, start, end):
        worths = self.tables[number].get(pairs, {})
        return [(time, worths[time]) for time in sorted(worths) if start <= time < end]

    def plain_cell(self, pairs, width, start, number):
        return plain_fold(self.all_points(pairs, number, start, start + width))

    def since(self, pairs, width, start):
        """The number of the last deed that changed a cell's fold."""
        for number in range(self.number, 0, -1):
            if self.plain_cell(pairs, width, start, number) != self.plain_cell(pairs, width, start, number - 1):
                return number
        return 0

    def since_kept(self, pairs, width, start):
        key = (pairs, width, start, self.number)
        if key not in self.cell_cache:
            self.cell_cache[key] = self.since(pairs, width, start)
        return self.cell_cache[key]

    def usable_cells(self, pairs, start, end, number):
        cells = []
        for width, horizon in zip(self.widths, self.horizons[1:]):
            for cell in range(floor_to(start, width), end, width):
                if start <= cell and cell + width <= end and not below(cell, horizon):
                    if self.since_kept(pairs, width, cell) <= number:
                        cells.append((cell, cell + width))
        return cells

    def least_cost(self, pairs, start, end, number):
        """The least cost of a plan, time by time, None where there is no plan."""
        cells = self.usable_cells(pairs, start, end, number)
        worths = self.tables[number].get(pairs, {})
        costs = {start: 0}
        for time in range(start, end):
            if time not in costs:
                continue
            steps = [(cell_end, 1) for cell, cell_end in cells if cell == time]
            if not below(time, self.horizons[0]):
                steps.append((time + 1, 1 if time in worths else 0))
            for behind, cost in steps:
                costs[behind] = min(costs.get(behind, costs[time] + cost), costs[time] + cost)
        return costs.get(end)

    # Questions.

    def asked_number(self, number):
        if number is None:
            return self.number
        if number < 0 or number < self.forgotten or number > self.number:
            raise NoNumber(number)
        return number

    def series(self, wishes, number):
        return [pairs for pairs in sorted(self.tables[number]) if plain_meets(pairs, wishes)]

    def found(self, wishes, *, number=None):
        number = self.asked_number(number)
        return [self.labels[pairs] for pairs in self.series(wishes, number)]

    def points(self, wishes, start, end, *, number=None):
        number = self.asked_number(number)
        if start < end and below(start, self.horizons[0]):
            raise Gone(None, start)
        told = [(self.labels[pairs], self.all_points(pairs, number, start, end)) for pairs in self.series(wishes, number)]
        return [(labels, points) for labels, points in told if points]

    def stretch_fold(self, pairs, start, end, number):
        # Where the stretch begins at the horizon or above it, its points alone are a plan.
        if start < end and below(start, self.horizons[0]):
            if self.least_cost(pairs, start, end, number) is None:
                raise Gone(self.labels[pairs], start)
        return plain_fold(self.all_points(pairs, number, start, end))

    def many_folds(self, wishes, stretches, number):
        number = self.asked_number(number)
        told = []
        for pairs in self.series(wishes, number):
            folds = [self.stretch_fold(pairs, start, end, number) for start, end in stretches]
            if any(fold.count for fold in folds):
                told.append((self.labels[pairs], folds))
        return told

    def folds(self, wishes, start, end, *, number=None):
        return [(labels, folds[0]) for labels, folds in self.many_folds(wishes, [(start, end)], number)]

    def windows(self, wishes, start, *, step, many=1, number=None):
        stretches = [(start + at * step, start + at * step + step) for at in range(many)]
        return self.many_folds(wishes, stretches, number)

    def stands(self, labels, number):
        if labels.pairs not in self.tables[number]:
            raise NoSeries(labels)

    def latest(self, labels, time, *, number=None):
        number = self.asked_number(number)
        self.stands(labels, number)
        horizon = self.horizons[0]
        if below(time, horizon):
            raise Gone(labels, time)
        points = [point for point in sorted(self.tables[number][labels.pairs].items()) if point[0] <= time]
        if not [point for point in points if not below(point[0], horizon)]:
            if horizon is not None and number < self.edge_number:
                raise Gone(labels, horizon)
        return points[-1] if points else None

    def plan_cost(self, labels, start, end, *, number=None):
        """The least cost of a plan, 0 of a stretch without a time."""
        number = self.asked_number(number)
        self.stands(labels, number)
        if start >= end:
            return 0
        cost = self.least_cost(labels.pairs, start, end, number)
        if cost is None:
            raise Gone(labels, start)
        return cost


def outcome(action, *things, **named):
    """What an action tells, or the name and fields of its refusal: so that two can be compared."""
    try:
        return "told", action(*things, **named)
    except (Gone, NoNumber, NoSeries, TooLate) as refusal:
        return type(refusal).__name__, sorted(vars(refusal).items())
