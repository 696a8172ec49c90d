"""[31]: a store comes up again by its lines and its marks."""

import copy
import random
import unittest

from test_histories import SETTINGS, History
from timegranary.errors import NoGrain, NoKeep, NoLog
from timegranary.labels import Labels
from timegranary.logs import GOES, MARKS, Log, line_of, read_line, read_log
from timegranary.store import Store, come_up

A = Labels({"a": "1"})
NAMED = {"widths": (10, 30), "keeps": (20, 40, None)}


def kept_by(store):
    """All that a store keeps: two of which this is the same answer alike, and go on alike."""
    state = store.state
    return copy.deepcopy({
        "number": (store.number, state.number), "least": state.least_number, "edge": state.edge_number,
        "names": [labels.pairs for labels in state.names.kept], "births": state.births, "edges": state.edges.kept,
        "loose": state.loose, "blocks": [(block.weight, block.kept) for block in state.shelf.kept],
        "horizons": state.keeping.horizons, "gone": state.grains.horizons,
        "cells": {width: {place: kept for place, kept in table.items() if kept} for width, table in state.grains.kept.items()},
    })


def grown_store():
    store = Store(**NAMED)
    store.put_all([(A, time, time) for time in range(0, 90, 8)])
    store.flush()
    store.put(Labels(), 50, 5)
    store.strike([("has", "a")], 40, 50)
    store.forget(1)
    store.put(A, 41, 7)
    store.expire(75)
    store.put(Labels({"late": "1"}), 80, 5)
    return store


class ByLines(unittest.TestCase):
    def refused(self, at, text, **named):
        with self.assertRaises(NoLog) as caught:
            come_up(text, **{**NAMED, **named})
        self.assertEqual(caught.exception.at, at)

    def test_a_log_leads_to_the_same_store(self):
        store = grown_store()
        again = come_up(store.lines(), **NAMED)
        self.assertIsInstance(again, Store)
        self.assertEqual(kept_by(again), kept_by(store))
        self.assertEqual(again.lines(), store.lines())
        self.assertEqual(again.put(A, 61, 1), store.put(A, 61, 1))
        self.assertEqual(again.lines(), store.lines())

    def test_no_lines(self):
        self.assertEqual(kept_by(come_up("")), kept_by(Store()))
        self.assertEqual(come_up("1. 6 fl").lines(), "")

    def test_widths_and_keeps_are_refused_as_a_stores(self):
        with self.assertRaises(NoGrain):
            come_up("bad\n", widths=())
        with self.assertRaises(NoKeep):
            come_up("bad\n", keeps=())

    def test_cut_off_at_every_sign(self):
        store = grown_store()
        text = store.lines()
        lines = text.split("\n")[:-1]
        stores = {0: kept_by(Store(**NAMED))}
        for many in range(1, len(lines) + 1):
            stores[many] = kept_by(come_up("".join(line + "\n" for line in lines[:many]), **NAMED))
        for cut in range(len(text) + 1):
            again = come_up(text[:cut], **NAMED)
            many = text[:cut].count("\n")
            self.assertEqual(kept_by(again), stores[many])
            self.assertEqual(again.lines(), "".join(line + "\n" for line in lines[:many]))

    def test_a_store_that_came_up_goes_on_over_what_was_cut_off(self):
        store = Store(**NAMED)
        store.put(A, 1, 1)
        store.put(A, 2, 2)
        again = come_up(store.lines()[:-3], **NAMED)
        self.assertEqual(again.number, 1)
        again.put(A, 3, 3)
        self.assertEqual(again.points([], 0, 9), [(A, [(1, 1), (3, 3)])])
        self.assertEqual(kept_by(come_up(again.lines(), **NAMED)), kept_by(again))

    def test_lines_left_out_twice_spoilt(self):
        lines = grown_store().lines().split("\n")[:-1]

        def text_of(some):
            return "".join(line + "\n" for line in some)

        for at in range(len(lines)):
            if at < len(lines) - 1:
                self.refused(at, text_of(lines[:at] + lines[at + 1:]))
            self.refused(at + 1, text_of(lines[:at + 1] + lines[at:]))
            self.refused(at, text_of(lines[:at] + [lines[at].replace(" ", "  ", 1)] + lines[at + 1:]))
            self.refused(at, text_of(lines[:at] + [""] + lines[at:]))
            self.refused(at, text_of(lines[:at] + [lines[at][:-1]] + lines[at + 1:]))

    def test_a_body_that_is_no_deed_or_is_refused(self):
        for bodies, at in (
            (["flush", "flush "], 1), (["found *"], 0), (["put a=1 0 5", "put a=1 0"], 1), ([""], 0), (["mark"], 0),
            (["expire 100", "put a=1 79 1"], 1), (["expire 100", "put a=1 80 1", "strike 0..90 *"], 2), (["forget 1"], 0),
            (["put a=1 0 1", "forget 1", "forget 2", "flush", "nothing"], 2), (["all 1 a=1 0 1", "expire 100", "all 1 a=1 0 1"], 2),
        ):
            log = Log()
            for body in bodies:
                log.write(body)
            self.refused(at, log.text())
        # A wrong line is told ahead of a body that is none, wherever it stands.
        self.refused(2, line_of(1, "nothing") + "\n" + line_of(2, "flush") + "\nwrong\n")

    def test_bundles(self):
        log = Log()
        log.write("put a=1 0 1")
        log.bundle(["put a=1 1 2", "flush", "put a=1 2 3"])
        again = come_up(log.text(), **NAMED)
        self.assertEqual(again.number, 3)
        self.assertEqual(again.lines(), log.text())
        again.put(A, 3, 4)
        self.assertEqual(read_line(again.lines().split("\n")[4])[:2], (5, "."))
        # Cut off in the bundle, all of it is let lie.
        cut = "".join(line + "\n" for line in log.lines()[:3])
        again = come_up(cut, **NAMED)
        self.assertEqual((again.number, again.lines()), (1, log.lines()[0] + "\n"))
        # Its lines have to be right all the same, but not deeds.
        self.refused(1, log.lines()[0] + "\n" + log.lines()[1][:-1] + "\n")
        self.assertEqual(come_up(log.lines()[0] + "\n" + line_of(2, "nothing", sign=GOES) + "\n", **NAMED).number, 1)
        self.refused(1, log.lines()[0] + "\n" + line_of(2, "nothing", sign=GOES) + "\n" + line_of(3, "flush") + "\n")


class ByMarks(unittest.TestCase):
    refused = ByLines.refused

    def test_a_mark_is_one_line_at_the_number_of_lines(self):
        store = grown_store()
        mark = store.mark()
        self.assertEqual((mark.count("\n"), mark[-1]), (1, "\n"))
        number, sign, body = read_line(mark[:-1])
        self.assertEqual((number, sign), (8, MARKS))
        self.assertEqual(store.mark(), mark)
        self.assertEqual(read_line(Store().mark()[:-1])[:2], (0, MARKS))

    def test_a_mark_alone_with_the_whole_log_and_with_the_lines_behind_it(self):
        store = grown_store()
        mark = store.mark()
        ahead = store.lines()
        here = kept_by(store)
        store.put(A, 70, 1)
        store.strike([], 60, 65)
        store.flush()
        text = store.lines()
        behind = text[len(ahead):]
        for told in (text, behind, "".join(line + "\n" for line in text.split("\n")[5:-1]), mark + behind):
            again = come_up(told, mark=mark, **NAMED)
            self.assertEqual(kept_by(again), kept_by(store))
            self.assertEqual(again.lines(), mark + behind)
            self.assertEqual(kept_by(come_up(again.lines(), **NAMED)), kept_by(store))
            self.assertEqual(come_up(again.lines(), **NAMED).lines(), mark + behind)
        for told in ("", ahead, ahead[:-5], ahead[:40], "rest of a li"):
            again = come_up(told, mark=mark, **NAMED)
            self.assertEqual((kept_by(again), again.lines()), (here, mark))

    def test_lines_up_to_the_marks_number_are_let_lie_whichever_they_are(self):
        store = grown_store()
        mark = store.mark()
        lines = store.lines().split("\n")[:-1]
        here = kept_by(store)
        others = [line_of(7, "nothing"), line_of(3, "flush", sign=GOES), line_of(0, "x", sign=MARKS), line_of(8, "", sign=MARKS)]
        for some in (lines[3:], lines[::-1], lines[2:5], others, lines + others):
            again = come_up("".join(line + "\n" for line in some), mark=mark, **NAMED)
            self.assertEqual((kept_by(again), again.lines()), (here, mark))
        behind = [line_of(9, "flush"), line_of(10, "put a=1 70 1")]
        again = come_up("".join(line + "\n" for line in others + behind), mark=mark, **NAMED)
        self.assertEqual(again.lines(), mark + "".join(line + "\n" for line in behind))
        self.assertEqual(again.number, store.number + 1)

    def test_wrong_lines_behind_a_mark(self):
        store = grown_store()
        mark = store.mark()
        lines = store.lines().split("\n")[:-1]
        nine = line_of(9, "flush")
        for at, some in (
            (0, [line_of(10, "flush")]), (8, lines + [line_of(10, "flush")]), (2, lines[:2] + ["wrong"] + lines[2:]),
            (0, [""]), (0, [lines[0][:-1]] + lines[1:]), (9, lines + [nine, nine]), (9, lines + [nine, lines[0]]),
            (9, lines + [nine, "wrong"]), (0, [line_of(9, "x", sign=MARKS)]), (1, [nine, line_of(8, "x", sign=MARKS)]),
            (1, [nine, line_of(10, "nothing")]), (9, lines + [nine, line_of(10, "put a=1 0 1")]),
            (8, lines + [line_of(9, "flush "), line_of(10, "flush")]), (9, lines + [line_of(9, "flush "), line_of(11, "flush")]),
            (1, [nine, line_of(10, "forget 99")]),
        ):
            self.refused(at, "".join(line + "\n" for line in some), mark=mark)

    def test_a_text_cut_off_behind_a_mark(self):
        store = grown_store()
        mark = store.mark()
        here = kept_by(store)
        store.put(A, 70, 1)
        there = kept_by(store)
        text = store.lines()
        for cut in range(len(text) + 1):
            again = come_up(text[:cut], mark=mark, **NAMED)
            self.assertEqual(kept_by(again), there if cut == len(text) else here)

    def test_a_log_whose_mark_stands_first(self):
        store = grown_store()
        text = store.mark()
        again = come_up(text, **NAMED)
        self.assertEqual((kept_by(again), again.lines()), (kept_by(store), text))
        store.put(A, 70, 1)
        again.put(A, 70, 1)
        self.assertEqual(kept_by(again), kept_by(store))
        self.assertEqual(again.lines(), text + store.lines().split("\n")[-2] + "\n")
        again = come_up(again.lines(), **NAMED)
        self.assertEqual(kept_by(again), kept_by(store))
        self.refused(1, text + line_of(9, "nothing") + "\n")
        self.refused(2, text + line_of(9, "flush") + "\n" + line_of(10, "forget 99") + "\n")

    def test_a_log_with_a_mark_in_its_middle(self):
        store = grown_store()
        lines = store.lines()
        mark = store.mark()
        store.put(A, 70, 1)
        last = store.lines().split("\n")[-2] + "\n"
        self.assertEqual(kept_by(come_up(lines + mark + last, **NAMED)), kept_by(store))
        self.refused(10, lines + mark + last + line_of(10, "nothing") + "\n")
        self.refused(9, lines + mark + line_of(9, "nothing") + "\n")

    def test_a_told_mark_ahead_of_another_one(self):
        store = grown_store()
        mark = store.mark()
        store.put(A, 70, 1)
        nine = store.lines().split("\n")[-2] + "\n"
        other = store.mark()
        store.put(A, 71, 1)
        ten = store.lines().split("\n")[-2] + "\n"
        again = come_up(nine + other + ten, mark=mark, **NAMED)
        self.assertEqual(kept_by(again), kept_by(store))
        self.assertEqual(again.lines(), mark + nine + other + ten)
        self.assertEqual(kept_by(come_up(again.lines(), **NAMED)), kept_by(store))
        self.refused(0, line_of(9, "nothing") + "\n" + other + ten, mark=mark)
        self.refused(2, nine + other + line_of(10, "nothing") + "\n", mark=mark)

    def test_a_mark_of_a_store_that_came_up(self):
        store = grown_store()
        again = come_up(store.mark() + line_of(9, "put a=1 70 1") + "\n", **NAMED)
        mark = again.mark()
        self.assertEqual(read_line(mark[:-1])[0], 9)
        self.assertEqual(kept_by(come_up("", mark=mark, **NAMED)), kept_by(again))
        # Of a newer mark the older log's first line, a mark's too, is let lie.
        self.assertEqual(kept_by(come_up(again.lines(), mark=mark, **NAMED)), kept_by(again))
        # Behind an older mark a newer one isn't right.
        self.refused(0, mark, mark=store.mark())

    def test_what_is_no_mark_of_a_store(self):
        for body in ("", "nothing", "1 2", "1 2 3 - - - x", "0 0 0 - - - 1 a=1 1"):
            self.refused(0, line_of(3, body, sign=MARKS) + "\n")

    def test_drawn_histories(self):
        for widths, keeps, scale in SETTINGS:
            for seed in range(5):
                with self.subTest(widths=widths, seed=seed):
                    history = History(self, random.Random(seed), widths, keeps, scale)
                    marks = []
                    for at in range(40):
                        history.deed()
                        if history.chance.random() < 0.2:
                            marks.append(history.store.mark())
                    named = {"widths": widths, "keeps": keeps}
                    text = history.store.lines()
                    # Where it came up between, its lines may begin with a mark.
                    self.assertEqual(kept_by(come_up(text, **named)), kept_by(history.store))
                    first = read_line(text.split("\n")[0])
                    for mark in marks:
                        if first[1] == MARKS and read_line(mark[:-1])[0] < first[0]:
                            continue
                        again = come_up(text, mark=mark, **named)
                        self.assertEqual(kept_by(again), kept_by(history.store))
                        self.assertEqual(again.lines()[:len(mark)], mark)
                        self.assertEqual(read_log(again.lines())[3], "")

    def test_watches_and_snapshots_are_not_kept(self):
        store = grown_store()
        mark = store.mark()
        store.watch([], 60, width=10)
        store.snapshot()
        self.assertEqual(store.mark(), mark)


if __name__ == "__main__":
    unittest.main()
