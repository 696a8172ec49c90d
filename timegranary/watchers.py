"""Watches: what has become of the folds of windows since it was told last."""

from timegranary.folds import Fold, fold_of, together
from timegranary.labels import meets_all


class Watch:
    """Windows of the series that meet wishes; a store tells it the points as they come and go.

    It keeps the points of its windows itself: so what a store lets go stays in its folds.
    """

    def __init__(self, wishes, start, width, many):
        self.wishes = list(wishes)
        self.start = start
        self.width = width
        self.many = many
        self.labels_by_pairs = {}
        # All by the labels' pairs and the window's place: so their order is that of what is told.
        self.elder_folds = {}
        self.worths = {}
        self.folds_now = {}
        self.folds_told = {}

    def told(self):
        """The windows whose folds are other ones than those told last, with both."""
        out = []
        for key in sorted(self.folds_now):
            old = self.folds_told.get(key, Fold())
            new = self.folds_now[key]
            if new != old:
                out.append((self.labels_by_pairs[key[0]], self.start_of(key), old, new))
                self.folds_told[key] = new
        return out

    def now(self):
        """The windows with points, with their folds."""
        return [
            (self.labels_by_pairs[key[0]], self.start_of(key), self.folds_now[key])
            for key in sorted(self.folds_now) if self.folds_now[key].count > 0
        ]

    def start_of(self, key):
        """The start of the window that a key tells."""
        return self.start + key[1] * self.width

    def take_fold(self, labels, window, fold):
        """Take in the fold of a window's points that were let go ahead of the watch."""
        key = (labels.pairs, window)
        self.labels_by_pairs[labels.pairs] = labels
        self.elder_folds[key] = fold
        self.folds_now[key] = fold

    def take(self, labels, worths):
        """Take in what a series has at some times now: by each time a worth or None."""
        if not meets_all(labels, self.wishes):
            return
        self.labels_by_pairs[labels.pairs] = labels
        changed = {}
        for time, worth in worths.items():
            window = (time - self.start) // self.width
            if 0 <= window < self.many:
                key = (labels.pairs, window)
                self.worths.setdefault(key, {})[time] = worth
                changed[key] = True
        for key in changed:
            self.folds_now[key] = together(self.elder_folds.get(key, Fold()), self.fold_kept(key))

    def fold_kept(self, key):
        """The fold of a window's points that came to the watch one by one."""
        worths = self.worths[key]
        return fold_of([(time, worths[time]) for time in sorted(worths) if worths[time] is not None])
