"""The store of points in time: deeds, questions at any number, snapshots, and how it comes up again."""

from timegranary.errors import NoLog, NoNumber, NoText, NoWish, TooLate
from timegranary.labels import check_wishes
from timegranary.logs import MARKS, Log, line_of, read_line, read_log
from timegranary.marks import mark_body, state_of
from timegranary.reads import tell_folds, tell_found, tell_latest, tell_plan, tell_points, tell_windows
from timegranary.states import (
    State, check_forget, check_puts, check_strike, do_expire, do_flush, do_forget, do_puts, do_strike,
)
from timegranary.texts import deed_text, read_deed
from timegranary.watchers import Watch

WIDTHS = (60, 3600)
KEEPS = (None, None, None)


class Store:
    """Points of series, by numbered deeds."""

    def __init__(self, *, widths=WIDTHS, keeps=KEEPS):
        self.state = State(widths, keeps)
        self.number = 0
        self.log = Log()
        self.watchers = []

    def put(self, labels, time, worth):
        """Put a point, and tell the cells that are other ones now."""
        row = (labels, time, worth)
        check_puts(self.state, [row])
        return self.put_rows([row], deed_text(("put", *row)))

    def put_all(self, rows):
        """Put several points by one deed, and tell the cells that are other ones now."""
        told = list(rows)
        check_puts(self.state, told)
        return self.put_rows(told, deed_text(("all", told)))

    def strike(self, wishes, start, end):
        """Take the points of a stretch out of the series that meet wishes, and tell the cells that are other ones."""
        told = list(wishes)
        check_strike(self.state, told, start, end)
        body = deed_text(("strike", told, start, end))
        cells, worths = do_strike(self.state, told, start, end)
        self.settled(body, worths)
        return cells

    def expire(self, now):
        """Let go what is old by a now, and tell the horizons."""
        horizons = do_expire(self.state, now)
        self.log.write(deed_text(("expire", now)))
        return horizons

    def forget(self, number):
        """Let go the versions ahead of a number, and tell how many rows went."""
        check_forget(self.state, number)
        many = do_forget(self.state, number)
        self.log.write(deed_text(("forget", number)))
        return many

    def flush(self):
        """Lay the rows that are in no block yet as one on the shelf."""
        do_flush(self.state)
        self.log.write(deed_text(("flush",)))

    def weights(self):
        """The weights of the blocks on the shelf."""
        return self.state.shelf.weights()

    def found(self, wishes, *, number=None):
        """The labels of the series that meet wishes."""
        return tell_found(self.state, wishes, number)

    def points(self, wishes, start, end, *, number=None):
        """The points of a stretch, for each series with one."""
        return tell_points(self.state, wishes, start, end, number)

    def folds(self, wishes, start, end, *, number=None):
        """The fold of a stretch, for each series with a point there."""
        return tell_folds(self.state, wishes, start, end, number)

    def windows(self, wishes, start, *, step, many=1, number=None):
        """The folds of windows side by side, for each series with a point there."""
        return tell_windows(self.state, wishes, start, step, many, number)

    def latest(self, labels, time, *, number=None):
        """The last point of a series that isn't behind a time, or None."""
        return tell_latest(self.state, labels, time, number)

    def plan(self, labels, start, end, *, number=None):
        """The pieces of which a read of a stretch is put together at the least cost."""
        return tell_plan(self.state, labels, start, end, number)

    def snapshot(self):
        """What answers for ever as the store does now."""
        return Snapshot(self.state.twin())

    def lines(self):
        """The text of the log."""
        return self.log.text()

    def mark(self):
        """A line of all that the store keeps, by which it comes up without the lines so far."""
        line = line_of(self.log.number, mark_body(self.state), sign=MARKS)
        return f"{line}\n"

    def watch(self, wishes, start, *, width, many=1):
        """A watch over windows side by side of the series that meet wishes."""
        told = list(wishes)
        check_wishes(told)
        watcher = Watch(told, start, width, many)
        for at in range(many):
            self.show_elder(watcher, told, at)
        for place in self.state.standing(told, self.number):
            points = self.state.points_at(place, self.number)
            watcher.take(self.state.names.labels_at(place), {time: worth for time, worth in points})
        self.watchers.append(watcher)
        return watcher

    def show_elder(self, watcher, wishes, at):
        """Show a watch the folds of those times of a window whose points were let go."""
        horizon = self.state.keeping.gone_before()
        start = watcher.start + at * watcher.width
        if horizon is None or horizon <= start:
            return
        for labels, fold in self.folds(wishes, start, min(start + watcher.width, horizon)):
            watcher.take_fold(labels, at, fold)

    def put_rows(self, rows, body):
        """Do a put of rows whose line has this body, and tell the cells that are other ones now."""
        cells, worths = do_puts(self.state, rows)
        self.settled(body, worths)
        return cells

    def settled(self, body, worths):
        """Number a deed, write its line, and show the watches the worths that it changed."""
        self.number = self.state.number
        self.log.write(body)
        for watcher in self.watchers:
            for labels, changed in worths:
                watcher.take(labels, changed)


class Snapshot:
    """A store's answers as they were when it was made."""

    def __init__(self, state):
        self.state = state

    def found(self, wishes):
        """The labels of the series that meet wishes."""
        return tell_found(self.state, wishes, None)

    def points(self, wishes, start, end):
        """The points of a stretch, for each series with one."""
        return tell_points(self.state, wishes, start, end, None)

    def folds(self, wishes, start, end):
        """The fold of a stretch, for each series with a point there."""
        return tell_folds(self.state, wishes, start, end, None)

    def windows(self, wishes, start, *, step, many=1):
        """The folds of windows side by side, for each series with a point there."""
        return tell_windows(self.state, wishes, start, step, many, None)

    def latest(self, labels, time):
        """The last point of a series that isn't behind a time, or None."""
        return tell_latest(self.state, labels, time, None)

    def plan(self, labels, start, end):
        """The pieces of which a read of a stretch is put together at the least cost."""
        return tell_plan(self.state, labels, start, end, None)


def do_deed(store, deed):
    """Do a deed, as read_deed tells it, and tell what the store tells."""
    word = deed[0]
    if word == "put":
        return store.put(deed[1], deed[2], deed[3])
    if word == "all":
        return store.put_all(deed[1])
    if word == "strike":
        return store.strike(deed[1], deed[2], deed[3])
    if word == "expire":
        return store.expire(deed[1])
    return store.forget(deed[1]) if word == "forget" else store.flush()


def lines_up_to(lines, number):
    """How many lines ahead of all others have numbers up to a told one; refused by the first that is no line."""
    for at, line in enumerate(lines):
        try:
            own_number, sign, body = read_line(line)
        except NoLog:
            raise NoLog(at) from None
        if own_number > number:
            return at
    return len(lines)


def behind_mark(text, mark):
    """The text of a mark and of what a log's text has behind it, and how far places in the log's text are from its."""
    number, sign, body = read_line(mark.rstrip("\n"))
    lines = text.split("\n")
    many = lines_up_to(lines[:-1], number)
    return mark + "\n".join(lines[many:]), many - 1


def log_of(text, offset):
    """The log of a text; refused at the place of the first wrong line and the offset."""
    try:
        log, mark, bodies, rest = read_log(text)
    except NoLog as e:
        raise NoLog(e.at + offset) from None
    return log


def take_mark(store, mark, at):
    """Let a new store keep what the body of a mark tells; refused at the place of its line where it tells nothing."""
    try:
        store.state = state_of(mark, store.state.keeping.widths, store.state.keeping.keeps)
    except NoText:
        raise NoLog(at) from None
    store.number = store.state.number


def do_line(store, body, at):
    """Let a store do the deed that the body of a line tells; refused at the line's place."""
    try:
        do_deed(store, read_deed(body))
    except (NoText, NoWish, NoNumber, TooLate):
        raise NoLog(at) from None


def do_lines(store, lines, offset):
    """Let a new store do what lines tell, of which the first may be a mark."""
    for at, line in enumerate(lines, start=offset):
        number, sign, body = read_line(line)
        if sign != MARKS:
            do_line(store, body, at)
        elif at == offset:
            take_mark(store, body, at)
        # A later mark tells nothing but what was done ahead of it.


def come_up(text, *, mark=None, widths=WIDTHS, keeps=KEEPS):
    """The store that a log makes, or a mark and the lines behind it."""
    store = Store(widths=widths, keeps=keeps)
    if mark is None:
        whole = log_of(text, 0)
        offset = whole.begin
        log = whole.trimmed()
    else:
        marked, offset = behind_mark(text, mark)
        log = log_of(marked, offset)
    do_lines(store, log.lines(), offset)
    # The lines stay as they were found, whatever signs they have.
    store.log = log
    return store
