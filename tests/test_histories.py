"""[4] and [6]: drawn histories of deeds, each read against the plain model."""

import collections
import random
import unittest

from plain_model import Model, outcome
from timegranary.errors import NoNumber, NoWish, TooLate
from timegranary.folds import Fold, fold_of, together
from timegranary.labels import Labels
from timegranary.plans import cost_of, is_plan
from timegranary.store import Store, come_up

SERIES = [
    Labels({}), Labels({"a": "x"}), Labels({"a": "xy", "b": "1"}), Labels({"a": "z", "b": "2"}), Labels({"b": "1"}),
]
WISHES = [
    [], [("has", "a")], [("lacks", "a")], [("is", "b", "1")], [("isnt", "b", "1")], [("begins", "a", "x")],
    [("oneof", "a", ("x", "z"))], [("has", "a"), ("has", "b")], [("oneof", "a", ())],
]
SETTINGS = [
    ((60, 3600), (None, None, None), 120),
    ((5, 10, 30), (20, 40, 80, None), 5),
    ((5, 15), (0, 0, 0), 5),
    ((1, 4, 8, 24), (10, 20, 40, 80, 160), 2),
    ((7,), (15, None), 4),
    ((4, 12), (5, None, None), 4),
    ((6, 12), (0, 30, 60), 6),
]


class History:
    """A store and a model that are told the same deeds."""

    def __init__(self, test, chance, widths, keeps, scale):
        self.test = test
        self.chance = chance
        self.widths = widths
        self.keeps = keeps
        self.scale = scale
        self.clock = 0
        self.store = Store(widths=widths, keeps=keeps)
        self.model = Model(widths, keeps)
        self.snapshots = []
        self.seen = collections.Counter()

    def time(self):
        return self.clock + self.chance.randint(-8 * self.scale, 4 * self.scale)

    def stretch(self):
        start = self.time() - self.chance.randint(0, 10 * self.scale)
        length = self.chance.choice([0, 1, self.scale, 4 * self.scale, 12 * self.scale, 20 * self.scale])
        end = start + self.chance.randint(0, length)
        if self.chance.random() < 0.5:
            width = self.chance.choice(self.widths)
            start, end = start // width * width, -(-end // width) * width
        if self.chance.random() < 0.05:
            start, end = end, start
        # The model goes through a stretch time by time, and 400 cells of the finest grain are the bound.
        return start, min(end, start + 400)

    def wishes(self):
        return self.chance.choice(WISHES)

    def worth(self):
        return self.chance.choice([-3, -1, 0, 0, 1, 2, 5, 10 ** 14, -(10 ** 14), self.chance.randint(-99, 99)])

    def row(self):
        return self.chance.choice(SERIES), self.time(), self.worth()

    def number(self):
        roll = self.chance.random()
        if roll < 0.3:
            return None
        if roll < 0.4:
            return self.model.number + self.chance.randint(-1, 2)
        return self.chance.randint(-1, self.model.number)

    # Deeds.

    def both(self, name, *things):
        told = outcome(getattr(self.store, name), *things)
        self.test.assertEqual(told, outcome(getattr(self.model, name), *things), (name, things))
        self.test.assertEqual(self.store.number, self.model.number)
        self.seen[(name, told[0])] += 1

    def deed(self):
        self.clock += self.chance.randint(0, self.scale)
        draw = self.chance.random()
        if draw < 0.4:
            self.both("put", *self.row())
        elif draw < 0.55:
            self.both("put_all", [self.row() for at in range(self.chance.choice([0, 1, 2, 5, 9]))])
        elif draw < 0.68:
            self.both("strike", self.wishes(), *self.stretch())
        elif draw < 0.76:
            self.both("expire", self.clock + self.chance.randint(-9 * self.scale, 2 * self.scale))
        elif draw < 0.84:
            self.store.flush()
        elif draw < 0.88:
            self.forget(self.model.number - self.chance.randint(-1, 20))
        elif draw < 0.92:
            self.snapshots.append((self.store.snapshot(), self.questions_of_now(6)))
        elif draw < 0.96:
            self.come_up()
        else:
            with self.test.assertRaises(NoWish):
                self.store.strike([("has", "a"), ("has", "A")], 0, 1)

    def forget(self, number):
        if number > self.model.number:
            with self.test.assertRaises(NoNumber):
                self.store.forget(number)
        else:
            self.model.forget(number)
            self.test.assertGreaterEqual(self.store.forget(number), 0)

    def come_up(self):
        text = self.store.lines()
        if self.chance.random() < 0.5:
            self.store = come_up(text, widths=self.widths, keeps=self.keeps)
        else:
            self.store = come_up(text, mark=self.store.mark(), widths=self.widths, keeps=self.keeps)

    # Questions.

    def question(self, number):
        named = {"number": number}
        labels = self.chance.choice(SERIES + [Labels({"no": "one"})])
        start, end = self.stretch()
        step = self.chance.choice([1, 3, self.scale, *self.widths[:3]])
        draw = self.chance.randrange(6)
        if draw == 0:
            return "found", (self.wishes(),), named
        if draw == 1:
            return "points", (self.wishes(), start, end), named
        if draw == 2:
            return "folds", (self.wishes(), start, end), named
        if draw == 3:
            return "windows", (self.wishes(), start), {"step": step, "many": self.chance.randint(1, 9), **named}
        if draw == 4:
            return "latest", (labels, self.time()), named
        return "plan", (labels, start, end), named

    def read(self):
        name, things, named = self.question(self.number())
        told = outcome(getattr(self.store, name), *things, **named)
        self.test.assertEqual(told, outcome(getattr(self.store, name), *things, **named))
        self.seen[(name, told[0])] += 1
        if name == "plan":
            self.look_at_plan(told, things, named["number"])
        else:
            self.test.assertEqual(told, outcome(getattr(self.model, name), *things, **named), (name, things, named))

    def look_at_plan(self, told, things, number):
        word, pieces = told
        labels, start, end = things
        expected = outcome(self.model.plan_cost, labels, start, end, number=number)
        if word != "told":
            self.test.assertEqual(told, expected)
            return
        at = self.model.number if number is None else number
        if start >= end:
            self.test.assertEqual((pieces, expected), ([], ("told", 0)))
            return
        cells = self.model.usable_cells(labels.pairs, start, end, at)
        self.test.assertTrue(is_plan(pieces, start, end, horizon=self.model.horizons[0], cells=cells))
        times = [time for time, worth in self.model.all_points(labels.pairs, at, start, end)]
        self.test.assertEqual(cost_of(pieces, times), expected[1])
        whole = Fold()
        for word, piece_start, piece_end in pieces:
            whole = together(whole, fold_of(self.model.all_points(labels.pairs, at, piece_start, piece_end)))
        self.test.assertEqual(whole, self.model.stretch_fold(labels.pairs, start, end, at))

    def questions_of_now(self, many):
        asked = []
        for at in range(many):
            name, things, named = self.question(None)
            del named["number"]
            asked.append((name, things, named, outcome(getattr(self.store, name), *things, **named)))
        return asked

    def read_snapshots(self):
        for snapshot, asked in self.snapshots:
            for name, things, named, told in asked:
                self.test.assertEqual(outcome(getattr(snapshot, name), *things, **named), told)


class Histories(unittest.TestCase):
    def live(self, seed, widths, keeps, scale, many):
        history = History(self, random.Random(seed), widths, keeps, scale)
        for at in range(many):
            history.deed()
            for turn in range(4):
                history.read()
            if at % 10 == 9:
                history.read_snapshots()
        return history

    def test_each_read_is_what_the_plain_model_tells(self):
        seen = collections.Counter()
        for widths, keeps, scale in SETTINGS:
            for seed in range(8):
                with self.subTest(widths=widths, keeps=keeps, seed=seed):
                    seen += self.live(seed, widths, keeps, scale, 60).seen
        for name in ("put", "put_all", "strike"):
            self.assertGreater(min(seen[(name, "told")], seen[(name, "TooLate")]), 20, name)
        for name in ("points", "folds", "windows", "latest", "plan"):
            for word in ("told", "Gone", "NoNumber"):
                self.assertGreater(seen[(name, word)], 20, (name, word))

    def test_a_long_history(self):
        for at, (widths, keeps, scale) in enumerate(SETTINGS[1:4]):
            with self.subTest(widths=widths):
                self.live(100 + at, widths, keeps, scale, 200)


if __name__ == "__main__":
    unittest.main()
