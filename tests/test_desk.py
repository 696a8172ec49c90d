"""[39]: a desk."""

import unittest

from timegranary.desk import Desk
from timegranary.errors import Gone, NoGrain, NoKeep, NoNumber, NoSeries, NoText, TooLate
from timegranary.folds import fold_of
from timegranary.labels import Labels
from timegranary.store import Store
from timegranary.texts import fold_text


def small_desk(*rows, keeps=(None, None, None)):
    desk = Desk(widths=(10, 30), keeps=keeps)
    for row in rows:
        desk.say(row)
    return desk


class Deeds(unittest.TestCase):
    def test_answers(self):
        desk = small_desk(keeps=(20, 40, None))
        for row, answer in (
            ("flush", "-"), ("put a=1 5 7", "1"), ("all 2 - 5 1 a=1 6 2", "2"), ("all 0", "3"), ("strike 5..6 !a", "4"),
            ("strike 9..0 *", "5"), ("flush", "4"), ("put b=1 50 1", "6"), ("flush", "4 1"), ("forget 4", "2"), ("forget 1", "0"),
            ("forget -1", "0"), ("expire 99", "70 30 -"), ("expire -9", "70 30 -"), ("put b=1 70 -3", "7"), ("flush", "4 2"),
        ):
            self.assertEqual(desk.say(row), answer, row)
        self.assertEqual(Desk().say("expire 5"), "- - -")

    def test_refused_ones(self):
        desk = small_desk("put a=1 50 1", "expire 99", keeps=(20, 40, None))
        with self.assertRaises(TooLate) as caught:
            desk.say("put a=1 69 1")
        self.assertEqual((caught.exception.time, caught.exception.horizon), (69, 70))
        with self.assertRaises(TooLate):
            desk.say("all 2 a=1 70 1 a=1 0 1")
        with self.assertRaises(TooLate):
            desk.say("strike 0..99 *")
        with self.assertRaises(NoNumber) as caught:
            desk.say("forget 2")
        self.assertEqual(caught.exception.number, 2)
        self.assertEqual(desk.say("log").count("\n"), 1)

    def test_made_of_widths_and_keeps(self):
        with self.assertRaises(NoGrain):
            Desk(widths=())
        with self.assertRaises(NoKeep):
            Desk(keeps=(1,))
        with self.assertRaises(TypeError):
            Desk((10,), (None, None))


class Questions(unittest.TestCase):
    def setUp(self):
        self.desk = small_desk("all 3 a=1 5 2 a=1 25 3 b=1,c=2 5 9", "put - 31 -4", "strike 0..99 b", "put a=1 5 8")

    def told(self, row, answer):
        self.assertEqual(self.desk.say(row), answer, row)

    def test_found(self):
        self.told("found *", "-\na=1\nb=1,c=2")
        self.told("found a", "a=1")
        self.told("found !a !b", "-")
        self.told("found zz", "-")
        self.told("at 1 found *", "a=1\nb=1,c=2")
        self.told("at 0 found *", "-")

    def test_points(self):
        self.told("points 0..99 *", "- 31:-4\na=1 5:8 25:3")
        self.told("points 0..25 a=1", "a=1 5:8")
        self.told("points 6..25 a=1", "-")
        self.told("points 25..0 *", "-")
        self.told("at 1 points 0..99 *", "a=1 5:2 25:3\nb=1,c=2 5:9")
        self.told("at 4 points 0..60 *", "- 31:-4\na=1 5:8 25:3")

    def test_folds(self):
        self.told("folds 0..99 a=1", "a=1 2 11 73 3 8 5:8 25:3 3 160")
        self.told("folds 0..99 *", "- 1 -4 16 -4 -4 31:-4 31:-4 0 0\na=1 2 11 73 3 8 5:8 25:3 3 160")
        self.told("folds 50..99 *", "-")
        self.told("at 1 folds 0..9 b", "b=1,c=2 1 9 81 9 9 5:9 5:9 0 0")

    def test_windows(self):
        empty = "0 0 0 - - - - 0 0"
        one = fold_text(fold_of([(5, 8)]))
        two = fold_text(fold_of([(25, 3)]))
        self.told("windows 0 10 3 a", f"a=1 {one}; {empty}; {two}")
        self.told("windows 5 1 1 *", f"a=1 {one}")
        self.told("windows 60 1 200 *", "-")
        self.told("at 3 windows 0 20 1 a", f"a=1 {fold_text(fold_of([(5, 2)]))}")

    def test_latest(self):
        self.told("latest a=1 99", "25:3")
        self.told("latest a=1 24", "5:8")
        self.told("latest a=1 4", "-")
        self.told("latest - 31", "31:-4")
        self.told("latest b=1,c=2 99", "-")
        self.told("at 2 latest b=1,c=2 99", "5:9")
        self.told("at 1 latest a=1 24", "5:2")

    def test_ask(self):
        self.told("ask 0 10 4 fold(sum, *)", "- 0 0 0 -4\na=1 8 0 3 0")
        self.told("ask 0 10 4 fold(least, *)", "- - - - -4\na=1 8 - 3 -")
        self.told("ask 0 30 1 each(times, fold(mean, a), -1/3)", "a=1 -11/6")
        self.told("ask 0 30 1 fold(sum, zz)", "-")
        self.told("ask 0 30 1 by(count, -, fold(sum, *))", "- 1")
        self.told("at 1 ask 0 30 1 by(sum, c, fold(sum, *))", "- 5\nc=2 9")

    def test_an_ask_tells_numbers_of_any_length(self):
        row = "ask 0 30 1 each(times, fold(sum, a), " + "9" * 40 + ")"
        self.told(row, f"a=1 {11 * int('9' * 40)}")

    def test_plan(self):
        self.told("plan 0..30 a=1", "cell 0..30")
        self.told("plan 0..0 a=1", "-")
        self.told("plan 30..0 a=1", "-")
        self.told("plan -5..31 -", "points -5..31")
        desk = small_desk("put a=1 1 1", "put a=1 2 1", "put a=1 31 1", "expire 30", keeps=(0, None, None))
        self.assertEqual(desk.say("plan 0..40 a=1"), "cell 0..30\npoints 30..40")

    def test_watch_and_told(self):
        desk = self.desk
        with self.assertRaises(NoText) as caught:
            desk.say("told")
        self.assertEqual(caught.exception.at, "told")
        self.told("watch 0 10 3 a", "ok")
        empty = "0 0 0 - - - - 0 0"
        one = fold_text(fold_of([(5, 8)]))
        two = fold_text(fold_of([(25, 3)]))
        self.told("told", f"a=1 0 {empty}; {one}\na=1 20 {empty}; {two}")
        self.told("told", "-")
        desk.say("strike 20..30 *")
        self.told("told", f"a=1 20 {two}; {empty}")
        self.told("watch 0 40 1 *", "ok")
        self.assertTrue(desk.say("told").startswith("- 0 "))

    def test_a_watch_that_is_refused_leaves_the_one_ahead(self):
        desk = small_desk("put a=1 5 1", "watch 0 10 1 *", "expire 30", keeps=(0, 0, 0))
        with self.assertRaises(Gone):
            desk.say("watch 0 10 1 *")
        self.assertEqual(desk.say("told"), "a=1 0 0 0 0 - - - - 0 0; 1 1 1 1 1 5:1 5:1 0 0")

    def test_log(self):
        self.assertEqual(Desk().say("log"), "-")
        store = Store(widths=(10, 30), keeps=(None, None, None))
        store.put_all([(Labels({"a": "1"}), 5, 2)])
        desk = small_desk("all 1 a=1 5 2")
        self.assertEqual(desk.say("log"), store.lines()[:-1])
        desk.say("flush")
        store.flush()
        self.assertEqual(desk.say("log"), store.lines()[:-1])

    def test_refusals_of_the_store(self):
        desk = small_desk("put a=1 5 1", "expire 30", keeps=(0, 0, 0))
        for row, kind, fields in (
            ("at 2 found *", NoNumber, {"number": 2}), ("at -1 found *", NoNumber, {"number": -1}),
            ("at 7 points 0..9 *", NoNumber, {"number": 7}), ("at 7 folds 0..9 *", NoNumber, {"number": 7}),
            ("at 7 windows 0 1 1 *", NoNumber, {"number": 7}), ("at 7 latest b=1 9", NoNumber, {"number": 7}),
            ("at 7 ask 0 1 1 fold(sum, *)", NoNumber, {"number": 7}), ("latest b=1 9", NoSeries, {"at": Labels({"b": "1"})}),
            ("plan 0..9 b=1", NoSeries, {"at": Labels({"b": "1"})}), ("points 0..9 *", Gone, {"labels": None, "at": 0}),
            ("folds 0..9 *", Gone, {"labels": Labels({"a": "1"}), "at": 0}),
            ("windows 0 1 1 *", Gone, {"labels": Labels({"a": "1"}), "at": 0}),
            ("latest a=1 9", Gone, {"labels": Labels({"a": "1"}), "at": 9}),
            ("ask 0 1 1 fold(sum, *)", Gone, {"labels": Labels({"a": "1"}), "at": 0}),
            ("plan 0..9 a=1", Gone, {"labels": Labels({"a": "1"}), "at": 0}),
            ("watch 0 9 1 *", Gone, {"labels": Labels({"a": "1"}), "at": 0}),
        ):
            with self.assertRaises(kind, msg=row) as caught:
                desk.say(row)
            self.assertEqual({name: getattr(caught.exception, name) for name in fields}, fields, row)


NO_ROWS = (
    "", " ", "hello", "put", "put a=1 5", "put a=1 5 1 ", " put a=1 5 1", "put  a=1 5 1", "put a=1 5 1\n", "put a=1 05 1",
    "all 1", "strike 0..5", "expire", "expire x", "forget 1 ", "flush ", "flush now", "at 0 flush", "at 0 put a=1 5 1",
    "at 0 expire 5", "found", "found ", "found a  b", "found A", "found * ", " found *", "found  *", "Found *", "found a,b",
    "points *", "points 0..9", "points 0..9 ", "points 0..9  *", "points 0 9 *", "points 0..9 a=", "points 00..9 *",
    "folds 0..9", "folds 0..9 * ", "folds 0-9 *", "windows 0 1 *", "windows 0 0 1 *", "windows 0 -1 1 *", "windows 0 1 0 *",
    "windows 0 1 201 *", "windows 0 1 1", "windows 0 1 1 ", "windows 0 01 1 *", "windows 0 1 1  *", "windows 0..1 1 1 *",
    "windows x 1 1 *", "latest a=1", "latest a=1 ", "latest a=1 5 5", "latest a 5", "latest * 5", "latest a=1 5.0", "latest 5 a=1",
    "latest  a=1 5", "ask 0 1 1", "ask 0 1 1 ", "ask 0 1 1 fold(total, *)", "ask 0 1 1 fold(sum,*)", "ask 0 1 1  fold(sum, *)",
    "ask 0 1 1 fold(sum, *) ", "ask 0 0 1 fold(sum, *)", "ask 0 1 201 fold(sum, *)", "ask 0 1 0 fold(sum, *)", "ask fold(sum, *)",
    "ask 0 1 1 " + "fill(last, " * 200 + "fold(sum, *)" + ")" * 200,
    "plan 0..9", "plan 0..9 *", "plan 0..9 b=1,a=1", "plan a=1 0..9", "plan 0..9 a=1 ", "at 1 plan 0..9 a=1", "watch 0 1 1",
    "watch 0 0 1 *", "watch 0 1 0 *", "watch 0 1 201 *", "watch 0..1 1 *", "at 1 watch 0 1 1 *", "told ", " told", "told *", "at 1 told",
    "log ", "log 1", "at 1 log", "at", "at ", "at 1", "at 1 ", "at x found *", "at 01 found *", "at -0 found *", "at  1 found *",
    "at 1  found *", "at 1 at 1 found *", "at found *", "at 1 found", "at 1 found * ", "at " + "1" * 41 + " found *", "say found *",
    "found *\n", "found\t*", "heard", "ready", "mark", "lines", "snapshot", "put_all 0", "weights", "-", "!NoText",
)


class NoRows(unittest.TestCase):
    def test_what_is_none_of_these(self):
        desk = small_desk("put a=1 5 1", "watch 0 10 1 *")
        ahead = (desk.store.lines(), desk.store.mark())
        heard = desk.heard
        for row in NO_ROWS:
            with self.assertRaises(NoText, msg=repr(row)) as caught:
                desk.say(row)
            self.assertEqual(caught.exception.at, row)
            self.assertIs(desk.ready, True)
        self.assertEqual((desk.store.lines(), desk.store.mark()), ahead)
        self.assertEqual((desk.heard - heard, desk.done), (len(NO_ROWS), 2))
        self.assertEqual(desk.say("told"), "a=1 0 0 0 0 - - - - 0 0; 1 1 1 1 1 5:1 5:1 0 0")


class SayAll(unittest.TestCase):
    ROWS = [
        "put a=1 50 1", "expire 99", "put a=1 5 1", "points 0..9 *", "latest b=1 99", "at 9 found *", "found  *", "put a=1 80 2",
    ]

    def test_stop_told_left_out_and_false(self):
        for named in ({}, {"stop": True}):
            desk = small_desk(keeps=(20, 40, None))
            self.assertEqual(desk.say_all(self.ROWS, **named), ["1", "70 30 -", "!TooLate"])
            self.assertEqual((desk.heard, desk.done, desk.ready), (3, 2, True))
        desk = small_desk(keeps=(20, 40, None))
        self.assertEqual(
            desk.say_all(rows=self.ROWS, stop=False),
            ["1", "70 30 -", "!TooLate", "!Gone", "!NoSeries", "!NoNumber", "!NoText", "2"],
        )
        self.assertEqual((desk.heard, desk.done, desk.ready), (8, 3, True))

    def test_each_refusal_ends_it(self):
        for row, name in (
            ("put a=1 5 1", "!TooLate"), ("points 0..9 *", "!Gone"), ("latest b=1 99", "!NoSeries"), ("at 9 found *", "!NoNumber"),
            ("found  *", "!NoText"),
        ):
            desk = small_desk("put a=1 50 1", "expire 99", keeps=(20, 40, None))
            self.assertEqual(desk.say_all(["flush", row, "flush"]), ["-", name])
            self.assertEqual((desk.heard, desk.done), (4, 3))

    def test_an_ask_of_200_brackets(self):
        desk = small_desk("put a=1 5 1")
        row = "ask 0 10 1 " + "fill(last, " * 199 + "fold(sum, *)" + ")" * 199
        self.assertEqual(desk.say(row), "a=1 1")

    def test_rows_without_refusals_and_none(self):
        desk = small_desk()
        self.assertEqual(desk.say_all([]), [])
        self.assertEqual(desk.say_all(["put a=1 5 1", "found *"]), ["1", "a=1"])
        self.assertEqual((desk.heard, desk.done), (2, 2))
        self.assertEqual(desk.say_all(("flush", "told", "flush")), ["1", "!NoText"])
        self.assertEqual((desk.heard, desk.done), (4, 3))

    def test_stop_is_told_by_name_alone(self):
        with self.assertRaises(TypeError):
            small_desk().say_all([], False)

    def test_lists(self):
        desk = small_desk()
        rows = ["put a=1 5 1", "found *"]
        told = desk.say_all(rows)
        told.clear()
        self.assertEqual(rows, ["put a=1 5 1", "found *"])
        self.assertEqual(desk.say_all(rows), ["2", "a=1"])

    def test_heard_done_and_ready(self):
        desk = Desk()
        self.assertEqual((desk.heard, desk.done, desk.ready), (0, 0, True))
        desk.say("flush")
        self.assertEqual((desk.heard, desk.done, desk.ready), (1, 1, True))
        with self.assertRaises(NoText):
            desk.say("flushed")
        with self.assertRaises(NoNumber):
            desk.say("forget 1")
        self.assertEqual((desk.heard, desk.done, desk.ready), (3, 1, True))
        desk.say("found *")
        self.assertEqual((desk.heard, desk.done, desk.ready), (4, 2, True))


if __name__ == "__main__":
    unittest.main()
