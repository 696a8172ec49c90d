"""Reads: what a state answers to questions at a number."""

from timegranary.errors import Gone, NoNumber, NoSeries
from timegranary.folds import Fold, fold_of, together
from timegranary.labels import check_wishes
from timegranary.plans import least_plan
from timegranary.states import is_below
from timegranary.times import cells


def number_asked(state, number):
    """The number at which is asked, None being the last one; refused where it isn't known."""
    if number is None:
        return state.number
    if not state.least_number <= number <= state.number:
        raise NoNumber(number)
    return number


def places_asked(state, wishes, number):
    """The number at which is asked, and the places of the series that stand there and meet wishes."""
    check_wishes(wishes)
    asked_at = number_asked(state, number)
    return asked_at, state.standing(wishes, asked_at)


def place_asked(state, labels, number):
    """The place of labels; refused where their series doesn't stand at a number."""
    place = state.names.place_of(labels)
    if place is None or state.births[place] > number:
        raise NoSeries(labels)
    return place


def points_within(points, start, end):
    """The points in a stretch."""
    return [point for point in points if start <= point[0] < end]


def tell_found(state, wishes, number):
    """The labels of series."""
    asked_at, places = places_asked(state, wishes, number)
    return [state.names.labels_at(place) for place in places]


def tell_points(state, wishes, start, end, number):
    """The points of series in a stretch."""
    asked_at, places = places_asked(state, wishes, number)
    if start < end and is_below(start, state.keeping.gone_before()):
        raise Gone(None, start)
    told = [
        (state.names.labels_at(place), points_within(state.points_at(place, asked_at), start, end))
        for place in places
    ]
    return [(labels, points) for labels, points in told if points]


def starts_worth_a_piece(state, place, width, start, end):
    """The starts of those cells in a stretch that a least plan may need."""
    horizon = state.keeping.gone_before()
    below = [] if horizon is None else cells(start, min(end, horizon + width - 1), width)
    # From the horizon on, a cell of one point or none is never cheaper than that point or none.
    above = [
        cell for cell in state.grains.cells_of(place, width)
        if start <= cell and cell + width <= end and not is_below(cell, horizon)
        and state.grains.fold_at(place, width, cell).count > 1
    ]
    return below + above


def usable_cells(state, place, width, start, end, number):
    """Of the cells that a least plan may need those whose folds are kept and are the ones known at a number."""
    horizon = state.keeping.gone_before(width)
    return [
        (cell, cell + width) for cell in starts_worth_a_piece(state, place, width, start, end)
        if not is_below(cell, horizon) and state.grains.since_at(place, width, cell) <= number
    ]


def plan_pieces(state, place, start, end, number, points):
    """The pieces of a least plan of a stretch that has a time, by the points known at a number; None without one."""
    chosen = []
    for width in state.grains.widths:
        chosen.extend(usable_cells(state, place, width, start, end, number))
    times = [time for time, worth in points_within(points, start, end)]
    told = least_plan(start, end, horizon=state.keeping.gone_before(), cells=chosen, points=times)
    return told[1] if told[0] == "plan" else None


def fold_of_pieces(state, place, pieces, points):
    """The fold of a plan's pieces."""
    whole = Fold()
    for word, start, end in pieces:
        if word == "cell":
            whole = together(whole, state.grains.fold_at(place, end - start, start))
        else:
            whole = together(whole, fold_of(points_within(points, start, end)))
    return whole


def fold_asked(state, place, start, end, number, points):
    """The fold of a stretch, by the points known at a number; refused where what it needs was let go."""
    if start >= end or not is_below(start, state.keeping.gone_before()):
        return fold_of(points_within(points, start, end))
    pieces = plan_pieces(state, place, start, end, number, points)
    if pieces is None:
        raise Gone(state.names.labels_at(place), start)
    return fold_of_pieces(state, place, pieces, points)


def folds_asked(state, wishes, stretches, number):
    """The folds of stretches, for each series with a point in one of them."""
    asked_at, places = places_asked(state, wishes, number)
    told = []
    for place in places:
        points = state.points_at(place, asked_at)
        folds = [fold_asked(state, place, start, end, asked_at, points) for start, end in stretches]
        if any([fold.count > 0 for fold in folds]):
            told.append((state.names.labels_at(place), folds))
    return told


def tell_folds(state, wishes, start, end, number):
    """The folds of series in a stretch."""
    return [(labels, folds[0]) for labels, folds in folds_asked(state, wishes, [(start, end)], number)]


def tell_windows(state, wishes, start, step, many, number):
    """The folds of series in windows side by side."""
    stretches = [(start + at * step, start + (at + 1) * step) for at in range(many)]
    return folds_asked(state, wishes, stretches, number)


def tell_latest(state, labels, time, number):
    """The last point of a series that isn't behind a time, or None."""
    asked_at = number_asked(state, number)
    place = place_asked(state, labels, asked_at)
    horizon = state.keeping.gone_before()
    if is_below(time, horizon):
        raise Gone(labels, time)
    points = [point for point in state.points_at(place, asked_at) if point[0] <= time]
    if points:
        return points[-1]
    # Of the point at the edge it isn't kept what it was at earlier numbers.
    if horizon is not None and asked_at < state.edge_number:
        raise Gone(labels, horizon)
    return state.edges.edge_of(place)


def tell_plan(state, labels, start, end, number):
    """The pieces of a least plan of a stretch of a series."""
    asked_at = number_asked(state, number)
    place = place_asked(state, labels, asked_at)
    if start >= end:
        return []
    pieces = plan_pieces(state, place, start, end, asked_at, state.points_at(place, asked_at))
    if pieces is None:
        raise Gone(labels, start)
    return pieces
