"""Grains: the folds of cells, of several widths, for series by places."""

from timegranary.errors import NoDeed
from timegranary.folds import Fold, fold_of, together
from timegranary.times import cell_of
from timegranary.widths import check_width, check_widths


def folds_by_cell(points, width):
    """By starts the folds of the cells of a width that points, by rising times, are in."""
    groups = {}
    for time, worth in points:
        groups.setdefault(cell_of(time, width), []).append((time, worth))
    return {start: fold_of(group) for start, group in groups.items()}


def joined_folds(folds, width):
    """By starts, rising, the folds of the cells of a width, put together of folds of finer cells by their starts."""
    wholes = {}
    for cell in sorted(folds):
        start = cell_of(cell, width)
        wholes[start] = together(wholes.get(start, Fold()), folds[cell])
    return wholes


def drop_cells(kept, horizon):
    """Take out of kept cells those that begin below a horizon, and tell how many with points there were."""
    dropped = [start for start in kept if start < horizon]
    full = [start for start in dropped if kept[start][0].count > 0]
    for start in dropped:
        del kept[start]
    return len(full)


class Grains:
    """Folds of cells, and the numbers of the deeds that changed them last."""

    def __init__(self, widths):
        check_widths(widths)
        self.widths = tuple(widths)
        self.busy = False
        # By width, by place, by the cell's start: its fold and since. A cell that lost its points stays here.
        self.kept = {width: {} for width in self.widths}
        # By width: the cells that begin below it were let go.
        self.horizons = {}

    def renew(self, place, times, points_in, *, number):
        """Fold the cells with one of the times anew, and tell those whose fold is another one now."""
        self.check_idle()
        told = list(times)
        folds_by_width = {self.widths[0]: self.asked_anew(told, points_in)}
        for finer, width in zip(self.widths, self.widths[1:]):
            starts = self.cells_with(told, width)
            folds_by_width[width] = self.joined_anew(place, finer, folds_by_width[finer], width, starts)
        return self.settled(place, folds_by_width, number)

    def fold_at(self, place, width, time):
        """The fold of the cell that a time is in."""
        cell = self.cell_at(place, width, time)
        return Fold() if cell is None else cell[0]

    def since_at(self, place, width, time):
        """The number of the last deed that changed the fold of the cell that a time is in."""
        cell = self.cell_at(place, width, time)
        return 0 if cell is None else cell[1]

    def cells_of(self, place, width):
        """The starts, rising, of the cells with points."""
        check_width(self.widths, width)
        return sorted(self.full_folds(place, width))

    def let_go(self, width, time):
        """Take out the cells of a width whose end isn't above a time, and tell how many with points there were."""
        check_width(self.widths, width)
        self.check_idle()
        horizon = cell_of(time, width)
        self.horizons[width] = max(horizon, self.horizons.get(width, horizon))
        gone = 0
        for kept in list(self.kept[width].values()):
            gone += drop_cells(kept, horizon)
        return gone

    def right(self, place, points):
        """Whether the folds of all cells that weren't let go are just those of points."""
        for width in self.widths:
            told = folds_by_cell(points, width)
            left = {start: told[start] for start in told if not self.is_gone(width, start)}
            if self.full_folds(place, width) != left:
                return False
        return True

    def twin(self):
        """Other grains that keep the same, and go on by themselves."""
        twin = Grains(self.widths)
        for width in self.widths:
            twin.kept[width] = {place: dict(kept) for place, kept in self.kept[width].items()}
        twin.horizons = dict(self.horizons)
        return twin

    def check_idle(self):
        """Refuse a deed while renew is under way."""
        if self.busy:
            raise NoDeed("the grains are being renewed")

    def is_gone(self, width, start):
        """Whether a cell was let go."""
        return start < self.horizons.get(width, start)

    def cell_at(self, place, width, time):
        """The fold and since of the cell that a time is in, None where nothing is kept."""
        check_width(self.widths, width)
        return self.kept_cells(place, width).get(cell_of(time, width))

    def kept_cells(self, place, width):
        """The kept cells of a series and a width: by starts their folds and sinces."""
        return self.kept[width].get(place, {})

    def full_folds(self, place, width):
        """By starts the folds of the cells with points."""
        return {start: fold for start, (fold, since) in self.kept_cells(place, width).items() if fold.count > 0}

    def cells_with(self, times, width):
        """The starts, rising, of the cells with one of the times that weren't let go."""
        starts = sorted({cell_of(time, width) for time in times})
        return [start for start in starts if not self.is_gone(width, start)]

    def asked_anew(self, times, points_in):
        """By starts, rising, the folds of the cells of the first width with one of the times, by asking points_in."""
        width = self.widths[0]
        folds = {}
        self.busy = True
        try:
            for start in self.cells_with(times, width):
                folds[start] = fold_of(points_in(start, start + width))
        finally:
            self.busy = False
        return folds

    def joined_anew(self, place, finer, anew, width, starts):
        """By starts the folds of cells, put together of finer cells: those made anew and the other kept ones."""
        wanted = {start: True for start in starts}
        kept = self.kept_cells(place, finer)
        folds = {cell: kept[cell][0] for cell in kept if cell_of(cell, width) in wanted}
        folds.update({cell: anew[cell] for cell in anew if cell_of(cell, width) in wanted})
        wholes = joined_folds(folds, width)
        return {start: wholes.get(start, Fold()) for start in starts}

    def settled(self, place, folds_by_width, number):
        """Keep the folds that are other ones now, and tell them."""
        changed = []
        for width, folds in folds_by_width.items():
            kept = self.kept[width].setdefault(place, {})
            for start, fold in folds.items():
                old = self.fold_at(place, width, start)
                if fold != old:
                    kept[start] = (fold, number)
                    changed.append((width, start, old, fold))
        return changed
