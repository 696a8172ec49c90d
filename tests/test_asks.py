"""[33], [34] and [34a]: frames, asks and their answers, and asks made shorter."""

import copy
import random
import unittest

from plain_asks import plain_answer
from timegranary.asks import Frame, answered, parts_of, shorter
from timegranary.errors import Gone, NoAsk, NoNumber, NoWish
from timegranary.folds import WHATS, fold_of
from timegranary.labels import Labels, meets
from timegranary.store import Store

COUNT = ("fold", "count", [])
SUM = ("fold", "sum", [])
LAST = ("fold", "last", [])


def store_with(*series):
    """A store that has, of each (labels, worths), a worth at each window of ten but where it is None."""
    store = Store(widths=(10, 100))
    for labels, worths in series:
        for at, worth in enumerate(worths):
            if worth is not None:
                store.put(Labels(labels), 10 * at + 3, worth)
    return store


def one_row(ask, worths, many=None):
    """The row that an ask tells of one series, [] where it tells none."""
    store = store_with(({"a": "x"}, worths))
    told = answered(store, ask, Frame(0, 10, len(worths) if many is None else many))
    assert len(told) < 2
    return told[0][1] if told else []


def numbers(*told):
    return [None if number is None else number if isinstance(number, tuple) else (number, 1) for number in told]


class Frames(unittest.TestCase):
    def test_fields(self):
        frame = Frame(-5, 10, 3)
        self.assertEqual((frame.start, frame.step, frame.many), (-5, 10, 3))
        frame = Frame(step=2, start=7)
        self.assertEqual((frame.start, frame.step, frame.many), (7, 2, 1))


class Folds(unittest.TestCase):
    def test_each_what_with_and_without_points(self):
        store = Store(widths=(10,), keeps=(None, None))
        points = [(1, 4), (3, 9), (5, 2), (22, 7)]
        for time, worth in points:
            store.put(Labels({"a": "x"}), time, worth)
        told = {what: answered(store, ("fold", what, []), Frame(0, 10, 3)) for what in WHATS}
        self.assertEqual(
            {what: row for what, [(labels, row)] in told.items()},
            {
                "count": numbers(3, 0, 1), "sum": numbers(15, 0, 7), "least": numbers(2, None, 7),
                "greatest": numbers(9, None, 7), "first": numbers(4, None, 7), "last": numbers(2, None, 7),
                "mean": numbers(5, None, 7), "spread": numbers((26, 3), None, 0), "rise": numbers(7, 0, 0),
                "held": numbers(26, 0, 0),
            },
        )

    def test_series_by_pairs_and_wishes(self):
        store = store_with(({"b": "1"}, [1]), ({"a": "x"}, [2]), ({}, [3]), ({"a": "x", "b": "2"}, [4]))
        frame = Frame(0, 10)
        self.assertEqual(
            answered(store, SUM, frame),
            [
                (Labels(), [(3, 1)]), (Labels({"a": "x"}), [(2, 1)]), (Labels({"a": "x", "b": "2"}), [(4, 1)]),
                (Labels({"b": "1"}), [(1, 1)]),
            ],
        )
        self.assertEqual(
            answered(store, ("fold", "sum", [("has", "a"), ("lacks", "b")]), frame), [(Labels({"a": "x"}), [(2, 1)])]
        )
        self.assertEqual(answered(store, ("fold", "sum", [("has", "c")]), frame), [])
        self.assertEqual(answered(store, SUM, Frame(10, 10, 5)), [])

    def test_at_a_number(self):
        store = store_with(({"a": "x"}, [1, 2]))
        frame = Frame(0, 10, 2)
        self.assertEqual(answered(store, SUM, frame, number=1), [(Labels({"a": "x"}), numbers(1, 0))])
        self.assertEqual(answered(store, SUM, frame, number=0), [])
        self.assertEqual(answered(store, SUM, frame, number=2), answered(store, SUM, frame))
        self.assertEqual(answered(store, ask=SUM, frame=frame, number=None), answered(store, SUM, frame))
        with self.assertRaises(NoNumber) as caught:
            answered(store, SUM, frame, number=3)
        self.assertEqual(caught.exception.number, 3)

    def test_what_is_told_is_the_askers(self):
        store = store_with(({"a": "x"}, [1, 2]))
        for ask in (SUM, ("fill", "last", LAST), ("top", 1, SUM), ("by", "sum", (), SUM), ("shift", 0, SUM)):
            told = answered(store, ask, Frame(0, 10, 2))
            kept = copy.deepcopy(told)
            told[0][1].clear()
            told.clear()
            self.assertEqual(answered(store, ask, Frame(0, 10, 2)), kept)


class Words(unittest.TestCase):
    def test_by(self):
        store = store_with(
            ({"a": "x", "b": "1"}, [1, None, 5]), ({"a": "x", "b": "2"}, [4, None, None]),
            ({"a": "y", "b": "1"}, [7, None, None]), ({"c": "1"}, [None, 2, None]),
        )
        frame = Frame(0, 10, 3)
        told = {what: answered(store, ("by", what, ("a",), LAST), frame) for what in
                ("count", "sum", "least", "greatest", "mean")}
        x = Labels({"a": "x"})
        y = Labels({"a": "y"})
        none = (Labels(), numbers(None, 2, None))
        self.assertEqual(told["sum"], [none, (x, numbers(5, None, 5)), (y, numbers(7, None, None))])
        self.assertEqual(told["least"], [none, (x, numbers(1, None, 5)), (y, numbers(7, None, None))])
        self.assertEqual(told["greatest"], [none, (x, numbers(4, None, 5)), (y, numbers(7, None, None))])
        self.assertEqual(told["mean"], [none, (x, numbers((5, 2), None, 5)), (y, numbers(7, None, None))])
        self.assertEqual(
            told["count"], [(Labels(), numbers(None, 1, None)), (x, numbers(2, None, 1)), (y, numbers(1, None, None))]
        )

    def test_by_no_keys_all_keys_and_keys_that_do_not_come(self):
        store = store_with(({"a": "x", "b": "1"}, [1]), ({"a": "y"}, [4]))
        frame = Frame(0, 10)
        self.assertEqual(answered(store, ("by", "sum", (), SUM), frame), [(Labels(), numbers(5))])
        self.assertEqual(answered(store, ("by", "sum", ("zz",), SUM), frame), [(Labels(), numbers(5))])
        self.assertEqual(answered(store, ("by", "sum", ("b", "a"), SUM), frame), answered(store, SUM, frame))
        self.assertEqual(
            answered(store, ("by", "sum", ("No Key", "b"), SUM), frame),
            [(Labels(), numbers(4)), (Labels({"b": "1"}), numbers(1))],
        )
        self.assertEqual(answered(Store(), ("by", "count", (), SUM), frame), [])

    def test_each(self):
        worths = [1, None, -3]
        self.assertEqual(one_row(("each", "plus", LAST, (1, 2)), worths), numbers((3, 2), None, (-5, 2)))
        self.assertEqual(one_row(("each", "minus", LAST, (1, 2)), worths), numbers((1, 2), None, (-7, 2)))
        self.assertEqual(one_row(("each", "times", LAST, (-2, 3)), worths), numbers((-2, 3), None, 2))
        self.assertEqual(one_row(("each", "times", LAST, (0, 1)), worths), numbers(0, None, 0))
        self.assertEqual(one_row(("each", "plus", ("each", "times", LAST, (1, 2)), (1, 2)), worths), numbers(1, None, -1))

    def test_both(self):
        store = store_with(
            ({"a": "x"}, [6, 5, None, 4]), ({"b": "x"}, [2, None, None, None]), ({"a": "y"}, [1, 1, 1, 0]),
        )
        frame = Frame(0, 10, 4)
        a = ("fold", "last", [("has", "a")])
        x = ("fold", "greatest", [("is", "a", "x")])
        self.assertEqual(answered(store, ("both", "plus", a, x), frame), [(Labels({"a": "x"}), numbers(12, 10, None, 8))])
        self.assertEqual(
            answered(store, ("both", "minus", ("each", "times", a, (2, 1)), x), frame),
            [(Labels({"a": "x"}), numbers(6, 5, None, 4))],
        )
        self.assertEqual(
            answered(store, ("both", "times", a, a), frame),
            [(Labels({"a": "x"}), numbers(36, 25, None, 16)), (Labels({"a": "y"}), numbers(1, 1, 1, 0))],
        )
        self.assertEqual(
            answered(store, ("both", "over", a, a), frame),
            [(Labels({"a": "x"}), numbers(1, 1, None, 1)), (Labels({"a": "y"}), numbers(1, 1, 1, None))],
        )
        self.assertEqual(answered(store, ("both", "plus", a, ("fold", "last", [("has", "b")])), frame), [])

    def test_both_over_numbers_below_nought(self):
        minus = ("each", "times", LAST, (-1, 2))
        self.assertEqual(one_row(("both", "over", LAST, minus), [3, -3]), numbers(-2, -2))
        self.assertEqual(one_row(("both", "over", ("each", "plus", LAST, (1, 1)), minus), [3, 4]), numbers((-8, 3), (-5, 2)))
        self.assertEqual(one_row(("both", "over", LAST, ("each", "times", LAST, (0, 1))), [3, 4]), [])

    def test_fill_last(self):
        ask = ("fill", "last", LAST)
        self.assertEqual(one_row(ask, [None, 1, None, None, 4, None]), numbers(None, 1, 1, 1, 4, 4))
        self.assertEqual(one_row(ask, [None, None, 3]), numbers(None, None, 3))

    def test_fill_straight(self):
        ask = ("fill", "straight", LAST)
        self.assertEqual(
            one_row(ask, [None, 1, None, None, 3, None, -1, None]),
            numbers(None, 1, (5, 3), (7, 3), 3, 1, -1, None),
        )
        self.assertEqual(one_row(ask, [None, 2, None]), numbers(None, 2, None))

    def test_above(self):
        self.assertEqual(one_row(("above", LAST, (2, 1)), [1, 2, 3, None]), numbers(None, None, 3, None))
        self.assertEqual(one_row(("above", LAST, (5, 2)), [1, 2, 3, None]), numbers(None, None, 3, None))
        self.assertEqual(one_row(("above", LAST, (3, 1)), [1, 2, 3, None]), [])
        self.assertEqual(one_row(("above", LAST, (-1, 2)), [-1, 0, None]), numbers(None, 0, None))

    def test_top(self):
        store = store_with(
            ({"a": "1"}, [5, 1, None, 0]), ({"a": "2"}, [7, 1, None, -1]), ({"a": "3"}, [5, 1, 9, None]),
        )
        frame = Frame(0, 10, 4)
        one, two, three = [Labels({"a": text}) for text in "123"]
        self.assertEqual(
            answered(store, ("top", 1, LAST), frame),
            [(one, numbers(None, 1, None, 0)), (two, numbers(7, None, None, None)), (three, numbers(None, None, 9, None))],
        )
        self.assertEqual(
            answered(store, ("top", 2, LAST), frame),
            [(one, numbers(5, 1, None, 0)), (two, numbers(7, 1, None, -1)), (three, numbers(None, None, 9, None))],
        )
        self.assertEqual(answered(store, ("top", 3, LAST), frame), answered(store, LAST, frame))
        self.assertEqual(answered(store, ("top", 99, LAST), frame), answered(store, LAST, frame))
        self.assertEqual(answered(Store(), ("top", 1, LAST), frame), [])

    def test_top_of_broken_numbers(self):
        store = Store(widths=(10,), keeps=(None, None))
        for text, worths in (("1", [1, 1, 2]), ("2", [1, 2]), ("3", [4, 4, 4, 4, 4, 4, 3])):
            for at, worth in enumerate(worths):
                store.put(Labels({"a": text}), at, worth)
        told = answered(store, ("top", 2, ("fold", "mean", [])), Frame(0, 10))
        self.assertEqual(told, [(Labels({"a": "2"}), [(3, 2)]), (Labels({"a": "3"}), [(27, 7)])])

    def test_shift(self):
        worths = [1, 2, None, 4]
        self.assertEqual(one_row(("shift", 1, LAST), worths), numbers(None, 1, 2, None))
        self.assertEqual(one_row(("shift", -1, LAST), worths), numbers(2, None, 4, None))
        self.assertEqual(one_row(("shift", 0, LAST), worths), numbers(1, 2, None, 4))
        self.assertEqual(one_row(("shift", 3, LAST), worths), numbers(None, None, None, 1))
        for by in (4, -4, 99, -99):
            self.assertEqual(one_row(("shift", by, LAST), worths), [])
        self.assertEqual(one_row(("shift", -1, ("shift", 1, LAST)), worths), numbers(1, 2, None, None))

    def test_rows_of_none_alone_are_left_out_at_the_end(self):
        store = store_with(({"a": "1"}, [5, 6]), ({"a": "2"}, [1, 2]))
        above = ("above", LAST, (4, 1))
        self.assertEqual([labels for labels, row in answered(store, above, Frame(0, 10, 2))], [Labels({"a": "1"})])
        self.assertEqual(
            answered(store, ("by", "count", (), above), Frame(0, 10, 2)), [(Labels(), numbers(1, 1))]
        )
        self.assertEqual(answered(store, ("both", "plus", LAST, above), Frame(0, 10, 2)),
                         [(Labels({"a": "1"}), numbers(10, 12))])

    def test_frames_that_do_not_fit_the_widths(self):
        store = store_with(({"a": "1"}, [1, 2, 3, 4]))
        self.assertEqual(answered(store, SUM, Frame(-4, 7, 7)), [(Labels({"a": "1"}), numbers(0, 1, 2, 3, 0, 4, 0))])


class NoAsks(unittest.TestCase):
    def refused(self, ask, at):
        store = store_with(({"a": "x"}, [1]))
        for action in (
            lambda: answered(store, ask, Frame(0, 10)), lambda: parts_of(ask), lambda: shorter(ask),
            lambda: answered(store, ask, Frame(0, 10), number=99),
        ):
            with self.assertRaises(NoAsk) as caught:
                action()
            self.assertEqual(caught.exception.at, at)
            self.assertIs(type(caught.exception.at), type(at))

    def test_each_way_in_which_a_thing_is_none(self):
        none = [
            None, 0, "fold", [], (), ["fold", "sum", []], ("sum",), (None,), ((),), (["fold"], "sum", []), ("Fold", "sum", []),
            ("fold",), ("fold", "sum"), ("fold", "sum", [], []), ("fold", "total", []), ("fold", None, []),
            ("fold", ["sum"], []),
            ("by", "sum", ()), ("by", "sum", (), SUM, SUM), ("by", "first", (), SUM), ("by", "spread", (), SUM),
            ("by", "sum", ["a"], SUM), ("by", "sum", "a", SUM), ("by", "sum", ("a", "a"), SUM), ("by", "sum", (1,), SUM),
            ("by", "sum", (("a",),), SUM), ("by", "sum", None, SUM), ("by", "sum", (["a"],), SUM),
            ("each", "over", SUM, (1, 1)), ("each", "plus", SUM, 1), ("each", "plus", SUM, (2, 4)),
            ("each", "plus", SUM, (1, 0)), ("each", "plus", SUM, (1, -1)), ("each", "plus", SUM, (0, 2)),
            ("each", "plus", SUM, [1, 1]), ("each", "plus", SUM, (1,)), ("each", "plus", SUM, (1, 1, 1)),
            ("each", "plus", SUM, (True, 1)), ("each", "plus", SUM, (1, True)), ("each", "plus", SUM, ("1", 1)),
            ("each", "plus", SUM, None), ("each", "plus", SUM), ("each", "plus", (1, 1), SUM),
            ("both", "mean", SUM, SUM), ("both", "plus", SUM), ("both", "plus", SUM, SUM, SUM), ("both", 1, SUM, SUM),
            ("fill", "first", SUM), ("fill", "last"), ("fill", SUM, "last"), ("fill", "last", SUM, SUM),
            ("above", SUM, 1), ("above", SUM, (3, 6)), ("above", (1, 1), SUM), ("above", SUM),
            ("top", 0, SUM), ("top", -1, SUM), ("top", True, SUM), ("top", "1", SUM), ("top", 1), ("top", SUM, 1),
            ("top", (1, 1), SUM), ("shift", True, SUM), ("shift", None, SUM), ("shift", "1", SUM), ("shift", (1, 1), SUM),
            ("shift", 1), ("shift", SUM, 1),
        ]
        for ask in none:
            self.refused(ask, ask)

    def test_inner_ones(self):
        bad = ("fold", "total", [])
        worse = ("top", 0, SUM)
        for ask in (
            ("by", "sum", (), bad), ("each", "plus", bad, (1, 1)), ("both", "plus", bad, worse),
            ("both", "plus", bad, SUM), ("both", "plus", SUM, bad), ("fill", "last", bad), ("above", bad, (1, 1)),
            ("top", 1, bad), ("shift", 1, bad), ("shift", 1, ("top", 1, ("both", "over", SUM, ("fill", "last", bad)))),
            ("both", "plus", ("fill", "last", bad), worse),
        ):
            self.refused(ask, bad)
        for inner in (None, [], 3, "fold"):
            self.refused(("fill", "last", inner), inner)

    def test_the_outside_is_looked_at_first(self):
        bad = ("fold", "total", [])
        for ask in (
            ("by", "sum", ("a", "a"), bad), ("each", "plus", bad, (2, 4)), ("above", bad, (2, 4)), ("top", 0, bad),
            ("both", "mean", bad, bad),
        ):
            self.refused(ask, ask)
        inner = ("above", bad, (0, 3))
        self.refused(("both", "plus", ("fill", "last", inner), bad), inner)

    def test_then_the_stores_refusals_of_the_first_fold_from_the_left(self):
        store = Store(widths=(10,), keeps=(0, 0))
        store.put(Labels({"a": "x"}), 5, 1)
        store.put(Labels({"b": "x"}), 5, 1)
        store.expire(20)
        frame = Frame(0, 10)
        bad_wish = ("fold", "sum", [("has", "a"), ("had", "a")])
        a = ("fold", "sum", [("has", "a")])
        b = ("fold", "sum", [("has", "b")])
        for ask, kind, field, worth in (
            (("both", "plus", a, bad_wish), Gone, "labels", Labels({"a": "x"})),
            (("both", "plus", bad_wish, a), NoWish, "at", 1),
            (("both", "plus", ("both", "plus", b, a), bad_wish), Gone, "labels", Labels({"b": "x"})),
            (("both", "plus", ("fold", "sum", [("has", "c")]), ("top", 1, b)), Gone, "labels", Labels({"b": "x"})),
        ):
            with self.assertRaises(kind) as caught:
                answered(store, ask, frame)
            self.assertEqual(getattr(caught.exception, field), worth)
        with self.assertRaises(NoNumber):
            answered(store, ("both", "plus", a, bad_wish), frame, number=7)
        # Wishes aren't looked at where the ask is none, nor where nothing is answered.
        self.refused(("both", "plus", bad_wish, ("top", 0, a)), ("top", 0, a))
        self.assertEqual(parts_of(bad_wish), 1)
        self.assertEqual(shorter(bad_wish), bad_wish)


class Parts(unittest.TestCase):
    def test_parts_of(self):
        self.assertEqual(parts_of(SUM), 1)
        self.assertEqual(parts_of(("fill", "last", SUM)), 2)
        self.assertEqual(parts_of(("both", "plus", ("top", 1, SUM), ("both", "over", SUM, COUNT))), 6)


PLUS = ("each", "plus", SUM, (1, 2))


class Shorter(unittest.TestCase):
    def test_each_of_the_told_pairs_alone(self):
        for ask, parts in (
            (("each", "plus", PLUS, (1, 3)), 2), (("each", "minus", PLUS, (1, 3)), 2),
            (("each", "minus", ("each", "minus", SUM, (1, 2)), (1, 3)), 2), (("each", "minus", PLUS, (1, 2)), 1),
            (("each", "plus", ("each", "minus", SUM, (1, 2)), (1, 2)), 1),
            (("each", "times", ("each", "times", SUM, (2, 3)), (3, 4)), 2),
            (("each", "times", ("each", "times", SUM, (2, 3)), (3, 2)), 1),
            (("each", "times", ("each", "times", SUM, (0, 1)), (3, 2)), 2),
            (("each", "plus", SUM, (0, 1)), 1), (("each", "minus", SUM, (0, 1)), 1), (("each", "times", SUM, (1, 1)), 1),
            (("above", ("above", SUM, (1, 1)), (3, 2)), 2), (("above", ("above", SUM, (3, 2)), (1, 1)), 2),
            (("top", 2, ("top", 1, SUM)), 2), (("top", 1, ("top", 2, SUM)), 2),
            (("shift", 1, ("shift", 2, SUM)), 2), (("shift", -1, ("shift", -2, SUM)), 2), (("shift", 0, SUM), 1),
            (("shift", 0, ("shift", 2, SUM)), 2), (("shift", 2, ("shift", 0, SUM)), 2),
            (("fill", "last", ("fill", "last", SUM)), 2), (("fill", "straight", ("fill", "straight", SUM)), 2),
            (("by", "sum", ("a",), ("by", "sum", ("a", "b"), SUM)), 2),
            (("by", "least", ("a", "b"), ("by", "least", ("b",), SUM)), 2),
            (("by", "greatest", ("a",), ("by", "greatest", ("b",), SUM)), 2),
            (("by", "sum", ("a",), ("by", "count", ("a", "b"), SUM)), 2),
        ):
            told = shorter(ask)
            self.assertEqual(parts_of(told), parts, ask)
            self.assert_short(told)
            self.assert_same_answers(ask, told)

    def assert_same_answers(self, ask, told):
        chance = random.Random(str(ask))
        for turn in range(12):
            store = drawn_store(chance)
            frame = Frame(chance.randint(-9, 9), chance.choice([3, 10, 17]), chance.randint(1, 7))
            self.assertEqual(told_or_refused(store, told, frame, None), told_or_refused(store, ask, frame, None), ask)

    def test_what_stays(self):
        for ask in (
            SUM, ("shift", 1, ("shift", -1, SUM)), ("shift", -2, ("shift", 3, SUM)),
            ("each", "plus", ("each", "times", SUM, (2, 1)), (1, 1)), ("each", "times", PLUS, (2, 1)),
            ("fill", "last", ("fill", "straight", SUM)), ("fill", "straight", ("fill", "last", SUM)),
            ("by", "mean", ("a",), ("by", "mean", ("a", "b"), SUM)), ("by", "count", (), ("by", "count", ("a",), SUM)),
            ("by", "count", (), ("by", "sum", ("a",), SUM)), ("by", "least", (), ("by", "greatest", ("a",), SUM)),
            ("both", "plus", SUM, SUM), ("above", ("top", 1, SUM), (1, 1)), ("each", "times", SUM, (0, 1)),
        ):
            self.assertEqual(parts_of(shorter(ask)), parts_of(ask), ask)
            self.assert_short(shorter(ask))
            self.assert_same_answers(ask, shorter(ask))

    def test_several_one_within_another(self):
        # What falls away brings others side by side.
        ask = ("above", ("each", "times", ("each", "plus", ("above", SUM, (1, 1)), (0, 1)), (1, 1)), (2, 1))
        self.assertEqual(parts_of(shorter(ask)), 2)
        ask = ("shift", 1, ("each", "plus", ("each", "minus", ("shift", 1, SUM), (1, 2)), (1, 2)))
        self.assertEqual(shorter(ask), ("shift", 2, SUM))
        ask = ("by", "sum", ("a",), ("by", "sum", ("a", "b"), ("by", "count", ("b", "c", "a"), SUM)))
        self.assertEqual(shorter(ask), ("by", "count", ("a",), SUM))
        ask = SUM
        for at in range(20):
            ask = ("shift", 1, ("fill", "last", ("shift", 0, ("fill", "last", ask))))
        self.assertEqual(parts_of(shorter(ask)), 41)

    def test_lists_within_are_new_ones(self):
        wishes = [("has", "a")]
        ask = ("both", "plus", ("fold", "sum", wishes), ("top", 1, ("fold", "sum", wishes)))
        told = shorter(ask)
        self.assertEqual(told, ask)
        told[2][2].append(("has", "b"))
        told[3][2][2].clear()
        self.assertEqual(wishes, [("has", "a")])
        told = shorter(ask)
        wishes.clear()
        self.assertEqual(told[2], ("fold", "sum", [("has", "a")]))

    def assert_short(self, ask):
        """None of the told pairs stands in an ask."""
        word = ask[0]
        inner = [part for part in ask[1:] if isinstance(part, tuple) and part and part[0] in WORDS]
        if word == "each":
            self.assertNotIn(ask[1:2] + ask[3:], [("plus", (0, 1)), ("minus", (0, 1)), ("times", (1, 1))])
            if inner[0][0] == "each":
                self.assertNotEqual(ask[1] == "times", inner[0][1] == "times")
        if word in ("above", "top"):
            self.assertNotEqual(inner[0][0], word)
        if word == "shift":
            self.assertNotEqual(ask[1], 0)
            if inner[0][0] == "shift":
                self.assertLess(ask[1] * inner[0][1], 0)
        if word == "fill" and inner[0][0] == "fill":
            self.assertNotEqual(ask[1], inner[0][1])
        if word == "by" and inner[0][0] == "by":
            self.assertFalse(ask[1] == inner[0][1] and ask[1] in ("sum", "least", "greatest"))
            self.assertFalse((ask[1], inner[0][1]) == ("sum", "count"))
        for part in inner:
            self.assert_short(part)

    def test_drawn_asks(self):
        chance = random.Random(6)
        shorter_ones = 0
        for turn in range(800):
            ask = drawn_ask(chance, chance.randint(1, 9))
            told = shorter(ask)
            self.assertLessEqual(parts_of(told), parts_of(ask))
            self.assert_short(told)
            self.assertEqual(shorter(told), told)
            shorter_ones += parts_of(told) < parts_of(ask)
            store = drawn_store(chance)
            frame = Frame(chance.randint(-9, 9), chance.choice([3, 10, 17]), chance.randint(1, 7))
            number = chance.choice([None, None, store.number // 2, 99])
            self.assertEqual(told_or_refused(store, told, frame, number), told_or_refused(store, ask, frame, number))
        self.assertGreater(shorter_ones, 200)


WORDS = ("fold", "by", "each", "both", "fill", "above", "top", "shift")
WISHES = ([], [("has", "a")], [("lacks", "a")], [("is", "b", "1")], [("begins", "a", "x")], [("isnt", "b", "1")])


def told_or_refused(store, ask, frame, number):
    try:
        return answered(store, ask, frame, number=number)
    except (Gone, NoNumber, NoWish) as refusal:
        return type(refusal), sorted(vars(refusal).items())


def drawn_number(chance):
    return chance.choice([(0, 1), (1, 1), (-1, 1), (1, 2), (-3, 2), (5, 1), (2, 3)])


def drawn_keys(chance):
    return tuple(chance.sample(("a", "b", "c", "zz"), chance.randint(0, 3)))


def drawn_ask(chance, depth):
    if depth <= 1:
        return "fold", chance.choice(WHATS), list(chance.choice(WISHES))
    inner = drawn_ask(chance, depth - 1)
    word = chance.choice(("by", "each", "both", "fill", "above", "top", "shift"))
    # Often the word right within once more: of such pairs shorter asks are made.
    if inner[0] != "fold" and chance.random() < 0.4:
        word = inner[0]
    return {
        "by": lambda: ("by", chance.choice(("count", "sum", "least", "greatest", "mean")), drawn_keys(chance), inner),
        "each": lambda: ("each", chance.choice(("plus", "minus", "times")), inner, drawn_number(chance)),
        "both": lambda: (
            "both", chance.choice(("plus", "minus", "times", "over")), inner, drawn_ask(chance, chance.randint(1, 2)),
        ),
        "fill": lambda: ("fill", chance.choice(("last", "straight")), inner),
        "above": lambda: ("above", inner, drawn_number(chance)),
        "top": lambda: ("top", chance.randint(1, 3), inner),
        "shift": lambda: ("shift", chance.randint(-2, 2), inner),
    }[word]()


def drawn_store(chance):
    keeps = chance.choice([(None, None), (None, None), (None, None), (20, 20)])
    store = Store(widths=(10,), keeps=keeps)
    series = [Labels({}), Labels({"a": "x", "b": "1"}), Labels({"a": "xy", "b": "2"}), Labels({"b": "1"}),
              Labels({"a": "z", "c": "1"})]
    for at in range(chance.choice([0, 3, 15, 25])):
        store.put(chance.choice(series), chance.randint(-9, 60), chance.randint(-4, 4))
    if keeps[0] is not None and chance.random() < 0.3:
        store.expire(chance.randint(0, 60))
    return store


class Drawn(unittest.TestCase):
    def test_answers_are_those_of_the_plain_model(self):
        chance = random.Random(7)
        answers = 0
        for turn in range(500):
            tables = {
                labels: {chance.randint(-5, 40): chance.randint(-4, 4) for at in range(chance.randint(0, 8))}
                for labels in [(), (("a", "x"), ("b", "1")), (("a", "xy"), ("b", "2")), (("b", "1"),), (("a", "z"),)]
            }
            store = Store(widths=(10,), keeps=(None, None))
            store.put_all([
                (Labels(pairs), time, worth) for pairs, table in tables.items() for time, worth in table.items()
            ])

            def windows(wishes, frame):
                told = []
                for pairs, table in tables.items():
                    folds = [
                        fold_of([(time, table[time]) for time in sorted(table) if 0 <= time - start < frame.step])
                        for start in range(frame.start, frame.start + frame.step * frame.many, frame.step)
                    ]
                    if meets(Labels(pairs), wishes) and any(fold.count for fold in folds):
                        told.append((Labels(pairs), folds))
                return told

            ask = drawn_ask(chance, chance.randint(1, 6))
            frame = Frame(chance.randint(-9, 9), chance.choice([2, 5, 10, 17]), chance.randint(1, 9))
            told = answered(store, ask, frame)
            self.assertEqual(told, plain_answer(windows, ask, frame), ask)
            answers += len(told) > 0
        self.assertGreater(answers, 100)

    def test_asks_twelve_deep_and_of_seventy_parts(self):
        store = store_with(({"a": "x"}, [1, 2]))
        ask = SUM
        for at in range(11):
            ask = ("fill", "last", ("shift", 0, ask)) if at % 2 else ("each", "plus", ask, (1, 1))
        self.assertEqual(answered(store, ask, Frame(0, 10, 2)), [(Labels({"a": "x"}), numbers(7, 8))])
        wide = [SUM] * 35
        while len(wide) > 1:
            wide = [("both", "plus", *wide[at:at + 2]) for at in range(0, len(wide) - 1, 2)] + wide[len(wide) // 2 * 2:]
        self.assertEqual(parts_of(wide[0]), 69)
        self.assertEqual(answered(store, wide[0], Frame(0, 10, 2)), [(Labels({"a": "x"}), numbers(35, 70))])


if __name__ == "__main__":
    unittest.main()
