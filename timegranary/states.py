"""States: all that a store keeps, and what deeds do to it."""

from timegranary.blocks import Block
from timegranary.errors import NoNumber, TooLate
from timegranary.grains import Grains
from timegranary.keeping import Edges, Keeping
from timegranary.labels import Names, check_wishes
from timegranary.rows import known, poured
from timegranary.shelves import Shelf
from timegranary.times import cell_of


class State:
    """Series, their rows, the folds of their cells, and what was let go."""

    def __init__(self, widths, keeps):
        self.keeping = Keeping(widths, keeps)
        self.grains = Grains(widths)
        self.edges = Edges()
        self.number = 0
        self.names = Names()
        # By each place the number from which its series stands.
        self.births = []
        self.shelf = Shelf()
        # By places the rows that are in no block yet, of none an empty list.
        self.loose = {}
        # Numbers below it were forgotten.
        self.least_number = 0
        # The number when the points' horizon last became another one.
        self.edge_number = 0

    def twin(self):
        """Another state that keeps the same, and goes on by itself but for the series."""
        twin = State(self.keeping.widths, self.keeping.keeps)
        twin.keeping = self.keeping.twin()
        twin.grains = self.grains.twin()
        twin.edges = self.edges.twin()
        twin.number = self.number
        # Series that come later stand from a number above all that a twin is asked at.
        twin.names = self.names
        twin.births = self.births
        twin.shelf = Shelf(self.shelf.kept)
        twin.loose = {place: list(rows) for place, rows in self.loose.items()}
        twin.least_number = self.least_number
        twin.edge_number = self.edge_number
        return twin

    def rows_at(self, place):
        """All rows of a series that are kept."""
        return poured(self.shelf.rows_at(place), self.loose.get(place, []))

    def points_at(self, place, number):
        """The points of a series that are kept and known at a number."""
        return known(self.rows_at(place), number)

    def standing(self, wishes, number):
        """The places of the series that stand at a number and meet wishes, by their labels' pairs."""
        places = [place for place in self.names.found(wishes) if self.births[place] <= number]
        return sorted(places, key=lambda place: self.names.labels_at(place).pairs)


def is_below(time, horizon):
    """Whether a time is below a horizon, None being below all times."""
    return horizon is not None and time < horizon


def check_time(state, time):
    """Refuse a time below the horizon of the points."""
    horizon = state.keeping.gone_before()
    if is_below(time, horizon):
        raise TooLate(time, horizon)


def check_puts(state, rows):
    """Refuse rows of which one has a time below the horizon."""
    for labels, time, worth in rows:
        check_time(state, time)


def check_strike(state, wishes, start, end):
    """Refuse what is no wish, and a stretch that begins below the horizon."""
    check_wishes(wishes)
    if start < end:
        check_time(state, start)


def check_forget(state, number):
    """Refuse a number above the last one."""
    if number > state.number:
        raise NoNumber(number)


def place_made(state, labels):
    """The place of labels, whose series stands from the last number on where they are new."""
    place = state.names.add(labels)
    if place == len(state.births):
        state.births.append(state.number)
    return place


def do_puts(state, rows):
    """Put the worths of rows; told is what settle tells."""
    state.number += 1
    worths_by_place = {}
    for labels, time, worth in rows:
        worths_by_place.setdefault(place_made(state, labels), {})[time] = worth
    return settle(state, worths_by_place)


def do_strike(state, wishes, start, end):
    """Take the points of a stretch out of the series that meet wishes; told is what settle tells."""
    state.number += 1
    worths_by_place = {}
    for place in state.standing(wishes, state.number):
        points = state.points_at(place, state.number)
        worths_by_place[place] = {time: None for time, worth in points if start <= time < end}
    return settle(state, worths_by_place)


def settle(state, worths_by_place):
    """Let series have worths, or None, at times, by places; tell the cells and the worths that are other ones now.

    The cells are told as a deed tells them, the worths as a list of labels and a dict by times.
    """
    cells = []
    worths = []
    for place in sorted(worths_by_place, key=lambda own_place: state.names.labels_at(own_place).pairs):
        labels = state.names.labels_at(place)
        changed = changed_worths(state, place, worths_by_place[place])
        rows = [(time, state.number, worth) for time, worth in changed.items()]
        if rows:
            state.loose[place] = poured(state.loose.get(place, []), rows)
            cells.extend([(labels, *cell) for cell in renew_cells(state, place, list(changed))])
            worths.append((labels, changed))
    return cells, worths


def changed_worths(state, place, worths):
    """Those of the worths, by times, that a series hasn't now."""
    now = {time: worth for time, worth in state.points_at(place, state.number)}
    return {time: worth for time, worth in worths.items() if worth != now.get(time)}


def renew_cells(state, place, times):
    """Fold the cells with one of the times anew, and tell those that are other ones now."""
    width = state.grains.widths[0]
    points_by_cell = {}
    for point in state.points_at(place, state.number):
        points_by_cell.setdefault(cell_of(point[0], width), []).append(point)
    # The grains ask for nothing but the stretches of cells of the first width.
    return state.grains.renew(
        place, times, lambda start, end: points_by_cell.get(start, []), number=state.number
    )


def do_flush(state):
    """Lay the rows that are in no block yet as one on the shelf."""
    if state.loose:
        state.shelf.laid(Block(state.loose))
        state.loose = {}


def do_forget(state, number):
    """Let go the versions that nothing known at a number or later needs, and tell how many rows went."""
    do_flush(state)
    state.least_number = max(state.least_number, number)
    return state.shelf.forgotten(number)


def do_expire(state, now):
    """Let go what is old by a now, and tell the horizons."""
    ahead = state.keeping.gone_before()
    horizons = state.keeping.expire(now)
    if horizons[0] != ahead:
        state.edge_number = state.number
        let_points_go(state, horizons[0])
    for width, horizon in zip(state.grains.widths, horizons[1:]):
        if horizon is not None:
            state.grains.let_go(width, horizon)
    return horizons


def let_points_go(state, horizon):
    """Let the rows below a horizon go, and keep the last point of each series among them."""
    for place in range(len(state.births)):
        state.edges.moved(place, state.points_at(place, state.number), horizon)
    state.shelf.let_go(horizon)
    left = {place: [row for row in rows if row[0] >= horizon] for place, rows in state.loose.items()}
    state.loose = {place: left[place] for place in left if left[place]}
