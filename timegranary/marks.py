"""Marks: all that a store keeps, written as words with a blank between two."""

from timegranary.blocks import Block
from timegranary.errors import NoText
from timegranary.folds import Fold
from timegranary.grains import folds_by_cell, joined_folds
from timegranary.labels import Labels
from timegranary.shelves import Shelf
from timegranary.states import State, is_below
from timegranary.texts import fold_text, point_text, read_labels, text_or_nothing
from timegranary.wholes import read_whole

# Far more than any number of a store within its bounds.
MOST_FIGURES = 400


def rows_words(rows_by_place):
    """The words of rows by places."""
    words = [str(len(rows_by_place))]
    for place, rows in rows_by_place.items():
        words.extend([str(place), str(len(rows))])
        for time, number, worth in rows:
            words.extend([str(time), str(number), text_or_nothing(worth)])
    return words


def series_words(state):
    """The words of the series: labels, the number from which it stands, the last point that was let go."""
    words = [str(len(state.births))]
    for place, birth in enumerate(state.births):
        words.extend([str(state.names.labels_at(place)), str(birth), point_text(state.edges.edge_of(place))])
    return words


def cells_words(kept, finer_horizon):
    """The words of the kept cells of one width and series.

    The folds of cells whose points or finer cells are all kept aren't written: they are made of these again.
    """
    words = [str(len(kept))]
    for start in sorted(kept):
        fold, since = kept[start]
        words.extend([str(start), str(since)])
        if is_below(start, finer_horizon):
            words.append(fold_text(fold))
    return words


def grains_words(state):
    """The words of the kept cells."""
    words = []
    # The horizons of the points and of each width but the last: of what the cells of each width are made.
    for width, finer_horizon in zip(state.grains.widths, state.keeping.horizons):
        kept_by_place = state.grains.kept[width]
        words.append(str(len(kept_by_place)))
        for place, kept in kept_by_place.items():
            words.append(str(place))
            words.extend(cells_words(kept, finer_horizon))
    return words


def mark_body(state):
    """The words of a state."""
    words = [str(state.number), str(state.least_number), str(state.edge_number)]
    words.extend([text_or_nothing(horizon) for horizon in state.keeping.horizons])
    words.extend(series_words(state))
    words.extend(rows_words(state.loose))
    words.append(str(len(state.shelf.kept)))
    for block in state.shelf.kept:
        words.append(str(block.weight))
        words.extend(rows_words(block.kept))
    words.extend(grains_words(state))
    return " ".join(words)


class Words:
    """The words of a text, taken one by one; refused with NoText where one isn't as it has to be."""

    def __init__(self, text):
        self.text_read = text
        self.left = text.split(" ")[::-1]

    def word(self):
        """The next word."""
        if not self.left:
            raise NoText(self.text_read)
        return self.left.pop()

    def whole(self):
        """The next word as a whole number."""
        return self.whole_in(self.word())

    def whole_or_none(self):
        """The next word as a whole number, or None."""
        word = self.word()
        return None if word == "-" else self.whole_in(word)

    def point_or_none(self):
        """The next word as a point, or None."""
        time, colon, worth = self.word().partition(":")
        return None if (time, colon) == ("-", "") else (self.whole_in(time), self.whole_in(worth))

    def whole_in(self, word):
        """The whole number that a word writes."""
        number = read_whole(word, MOST_FIGURES)
        if number is None:
            raise NoText(self.text_read)
        return number


def take_rows(words):
    """Rows by places."""
    rows_by_place = {}
    for at in range(words.whole()):
        place = words.whole()
        rows = []
        for row_at in range(words.whole()):
            time = words.whole()
            number = words.whole()
            rows.append((time, number, words.whole_or_none()))
        rows_by_place[place] = rows
    return rows_by_place


def take_series(words, state):
    """Give a state its series."""
    for at in range(words.whole()):
        place = state.names.add(read_labels(words.word()))
        state.births.append(words.whole())
        edge = words.point_or_none()
        if edge is not None:
            state.edges.kept[place] = edge


def take_shelf(words):
    """The shelf of blocks."""
    blocks = []
    for at in range(words.whole()):
        weight = words.whole()
        blocks.append(Block(take_rows(words), weight=weight))
    return Shelf(blocks)


def take_fold(words):
    """The fold that nine words write."""
    count = words.whole()
    total = words.whole()
    squares = words.whole()
    least = words.whole_or_none()
    greatest = words.whole_or_none()
    first = words.point_or_none()
    last = words.point_or_none()
    rise = words.whole()
    return Fold(
        count=count, total=total, squares=squares, least=least, greatest=greatest, first=first, last=last, rise=rise,
        held=words.whole(),
    )


def take_cells(words, finer_horizon, folds):
    """The kept cells of one width and series, whose folds are among folds, by starts, where they aren't written."""
    kept = {}
    for at in range(words.whole()):
        start = words.whole()
        since = words.whole()
        fold = take_fold(words) if is_below(start, finer_horizon) else folds.get(start, Fold())
        kept[start] = (fold, since)
    return kept


def folds_made(state, place, level):
    """By starts the folds of the cells of a width, told by its place among the widths, by what they are made of."""
    width = state.grains.widths[level]
    if level == 0:
        return folds_by_cell(state.points_at(place, state.number), width)
    finer = state.grains.kept_cells(place, state.grains.widths[level - 1])
    return joined_folds({start: fold for start, (fold, since) in finer.items()}, width)


def take_grains(words, state):
    """Give a state its kept cells, the finer ones first."""
    for level, width in enumerate(state.grains.widths):
        for at in range(words.whole()):
            place = words.whole()
            folds = folds_made(state, place, level)
            state.grains.kept[width][place] = take_cells(words, state.keeping.horizons[level], folds)
    for width, horizon in zip(state.grains.widths, state.keeping.horizons[1:]):
        if horizon is not None:
            state.grains.let_go(width, horizon)


def state_of(body, widths, keeps):
    """The state, with these widths and keeps, whose words a body has."""
    words = Words(body)
    state = State(widths, keeps)
    state.number = words.whole()
    state.least_number = words.whole()
    state.edge_number = words.whole()
    state.keeping.horizons = tuple([words.whole_or_none() for keep in keeps])
    take_series(words, state)
    state.loose = take_rows(words)
    state.shelf = take_shelf(words)
    take_grains(words, state)
    return state
