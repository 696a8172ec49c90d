"""What is kept how long: horizons of points and cells, and the last points that were let go."""

from timegranary.errors import NoKeep
from timegranary.times import cell_of
from timegranary.widths import check_width, check_widths
from timegranary.wholes import is_whole


def is_keep(keep, ahead):
    """Whether a keep may stand behind the one ahead."""
    if keep is None:
        return True
    return is_whole(keep) and ahead is not None and keep >= ahead


def check_keeps(keeps, many):
    """Refuse keeps that aren't so many, from 0 on or None, none less than the one ahead."""
    # The first keep may be any from 0 on.
    ahead = 0
    for at, keep in enumerate(keeps):
        if at == many or not is_keep(keep, ahead):
            raise NoKeep(at)
        ahead = keep
    if len(keeps) < many:
        raise NoKeep(len(keeps))


def horizon_behind(horizon, now, keep, width):
    """The horizon behind a now: a multiple of the width that leaves the keep, never one below the horizon ahead."""
    if keep is None:
        return None
    reached = cell_of(now - keep, width)
    return reached if horizon is None else max(horizon, reached)


class Keeping:
    """Horizons, below which points and the cells of each width are gone."""

    def __init__(self, widths, keeps):
        check_widths(widths)
        check_keeps(keeps, len(widths) + 1)
        self.widths = tuple(widths)
        self.keeps = tuple(keeps)
        self.horizons = (None,) * len(self.keeps)

    def expire(self, now):
        """Set the horizons by a now, and tell them: that of the points, then that of each width."""
        # Points go by whole cells of the first width, cells by whole ones of the next: so no coarser cell is parted.
        steps = self.widths + self.widths[-1:]
        self.horizons = tuple([
            horizon_behind(horizon, now, keep, step)
            for horizon, keep, step in zip(self.horizons, self.keeps, steps)
        ])
        return self.horizons

    def gone_before(self, width=None):
        """The horizon of the points, or of a width."""
        if width is None:
            return self.horizons[0]
        check_width(self.widths, width)
        return self.horizons[1 + self.widths.index(width)]

    def finest(self, time):
        """0 where the points at a time aren't gone, else the least width of which the cell isn't, or None."""
        for grain, horizon in zip((0,) + self.widths, self.horizons):
            if horizon is None or horizon <= time:
                return grain
        return None

    def twin(self):
        """Another keeping with the same horizons, which goes on by itself."""
        twin = Keeping(self.widths, self.keeps)
        twin.horizons = self.horizons
        return twin


class Edges:
    """The last point of each series that was let go."""

    def __init__(self):
        self.kept = {}

    def moved(self, place, points, horizon):
        """The last point below a horizon, or the one kept where that is later, which is kept from then on."""
        below = [] if horizon is None else [point for point in points if point[0] < horizon]
        edge = self.kept.get(place)
        if below and (edge is None or edge[0] <= below[-1][0]):
            edge = below[-1]
            self.kept[place] = edge
        return edge

    def edge_of(self, place):
        """The last point of a series that was let go, or None."""
        return self.kept.get(place)

    def twin(self):
        """Other edges that keep the same, and go on by themselves."""
        twin = Edges()
        twin.kept = dict(self.kept)
        return twin
