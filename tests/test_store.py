"""[25] to [30]: a store's deeds, what they let go, its questions and its snapshots."""

import copy
import unittest

from timegranary.errors import Gone, NoGrain, NoKeep, NoNumber, NoSeries, NoWish, TooLate
from timegranary.folds import Fold, fold_of
from timegranary.labels import Labels
from timegranary.logs import read_log
from timegranary.store import Store

A = Labels({"a": "1"})
B = Labels({"b": "1"})
AB = Labels({"a": "1", "b": "1"})
NONE = Labels()
BAD_WISHES = [("has", "a"), ("had", "a")]


def small_store(keeps=(None, None, None)):
    return Store(widths=(10, 30), keeps=keeps)


def all_of(store):
    """What a store tells, as far as it doesn't change by being asked."""
    return (
        store.number, store.lines(), store.mark(), store.weights(), store.found([]),
        [store.latest(labels, 10 ** 9) for labels in store.found([])],
    )


class Refusing(unittest.TestCase):
    def refused(self, kind, fields, action, *things, **named):
        with self.assertRaises(kind) as caught:
            action(*things, **named)
        self.assertEqual({name: getattr(caught.exception, name) for name in fields}, fields)

    def unchanged(self, store, kind, fields, action, *things, **named):
        ahead = all_of(store)
        self.refused(kind, fields, action, *things, **named)
        self.assertEqual(all_of(store), ahead)


class Making(Refusing):
    def test_widths_and_keeps(self):
        Store()
        Store(widths=(60,), keeps=(None, None))
        Store(widths=(1, 2, 4, 8), keeps=(0, 1, 2, 3, None))
        self.refused(NoGrain, {"at": 0}, Store, widths=())
        self.refused(NoGrain, {"at": 1}, Store, widths=(60, 90), keeps=())
        self.refused(NoGrain, {"at": 4}, Store, widths=(1, 2, 4, 8, 16))
        self.refused(NoKeep, {"at": 2}, Store, widths=(60, 120), keeps=(1, 1))
        self.refused(NoKeep, {"at": 1}, Store, keeps=(5, 4, 6))
        self.refused(NoKeep, {"at": 3}, Store, keeps=(1, 2, 3, 4))
        self.refused(NoKeep, {"at": 1}, Store, keeps=(None, 1, None))
        with self.assertRaises(TypeError):
            Store((60,), (None, None))

    def test_a_new_store(self):
        store = Store()
        self.assertEqual((store.number, store.lines(), store.weights(), store.found([])), (0, "", [], []))
        self.assertEqual((store.points([], 0, 9), store.folds([], 0, 9)), ([], []))
        self.assertEqual(store.found([], number=0), [])


class Deeds(Refusing):
    def test_put_tells_the_cells_that_it_changed(self):
        store = small_store()
        one = fold_of([(5, 7)])
        self.assertEqual(store.put(A, 5, 7), [(A, 10, 0, Fold(), one), (A, 30, 0, Fold(), one)])
        two = fold_of([(5, 7), (25, 1)])
        self.assertEqual(
            store.put(A, 25, 1), [(A, 10, 20, Fold(), fold_of([(25, 1)])), (A, 30, 0, one, two)]
        )
        self.assertEqual(store.number, 2)
        self.assertEqual(
            store.put(labels=A, time=5, worth=8),
            [(A, 10, 0, one, fold_of([(5, 8)])), (A, 30, 0, two, fold_of([(5, 8), (25, 1)]))],
        )

    def test_a_point_put_as_it_was_changes_nothing_but_the_number(self):
        store = small_store()
        store.put(A, 5, 7)
        store.flush()
        self.assertEqual(store.put(A, 5, 7), [])
        self.assertEqual((store.number, store.weights()), (2, [1]))
        store.flush()
        self.assertEqual(store.weights(), [1])

    def test_put_all(self):
        store = small_store()
        told = store.put_all([(B, 5, 1), (A, 35, 2), (A, 5, 3), (B, 5, 4)])
        five = fold_of([(5, 3)])
        late = fold_of([(35, 2)])
        four = fold_of([(5, 4)])
        self.assertEqual(
            told,
            [
                (A, 10, 0, Fold(), five), (A, 10, 30, Fold(), late), (A, 30, 0, Fold(), five), (A, 30, 30, Fold(), late),
                (B, 10, 0, Fold(), four), (B, 30, 0, Fold(), four),
            ],
        )
        self.assertEqual(store.number, 1)
        self.assertEqual(store.points([], 0, 99), [(A, [(5, 3), (35, 2)]), (B, [(5, 4)])])
        store.flush()
        # One row for each series and time, though one was put twice.
        self.assertEqual(store.weights(), [3])

    def test_put_all_of_none_and_of_one_time_put_back(self):
        store = small_store()
        self.assertEqual(store.put_all([]), [])
        self.assertEqual(store.number, 1)
        store.put(A, 5, 1)
        store.flush()
        self.assertEqual(store.put_all([(A, 5, 2), (A, 5, 1)]), [])
        store.flush()
        self.assertEqual((store.number, store.weights()), (3, [1]))

    def test_strike(self):
        store = small_store()
        store.put_all([(A, 5, 1), (A, 15, 2), (B, 5, 3), (AB, 5, 4)])
        told = store.strike([("has", "a")], 0, 10)
        self.assertEqual(
            told,
            [
                (A, 10, 0, fold_of([(5, 1)]), Fold()),
                (A, 30, 0, fold_of([(5, 1), (15, 2)]), fold_of([(15, 2)])),
                (AB, 10, 0, fold_of([(5, 4)]), Fold()), (AB, 30, 0, fold_of([(5, 4)]), Fold()),
            ],
        )
        self.assertEqual(store.points([], 0, 99), [(A, [(15, 2)]), (B, [(5, 3)])])
        self.assertEqual(store.found([]), [A, AB, B])
        self.assertEqual(store.strike([("has", "a")], 0, 10), [])
        self.assertEqual(store.strike([("has", "zz")], 0, 99), [])
        self.assertEqual(store.strike([], 15, 15), [])
        self.assertEqual(store.strike([], 16, 15), [])
        self.assertEqual(store.strike([], 16, 5), [])
        self.assertEqual(store.number, 7)
        self.assertEqual(store.strike(wishes=[], start=5, end=6), [
            (B, 10, 0, fold_of([(5, 3)]), Fold()), (B, 30, 0, fold_of([(5, 3)]), Fold()),
        ])

    def test_a_strike_does_not_meet_series_that_come_later(self):
        store = small_store()
        store.strike([], 0, 99)
        store.put(A, 5, 1)
        self.assertEqual(store.points([], 0, 99), [(A, [(5, 1)])])

    def test_a_coarser_fold_that_stays_the_same_is_not_told(self):
        store = small_store((0, None, None))
        store.put_all([(A, 0, 0), (A, 3, 1), (A, 4, 0), (A, 13, 0), (A, 14, 0), (A, 29, 0)])
        # The one goes from the first cell of ten to the second: all sums of the cell of thirty stay.
        self.assertEqual(
            store.put_all([(A, 3, 0), (A, 13, 1)]),
            [
                (A, 10, 0, fold_of([(0, 0), (3, 1), (4, 0)]), fold_of([(0, 0), (3, 0), (4, 0)])),
                (A, 10, 10, fold_of([(13, 0), (14, 0)]), fold_of([(13, 1), (14, 0)])),
            ],
        )
        store.expire(30)
        # So the cell of thirty tells what was known at 1, and those of ten don't.
        whole = fold_of([(0, 0), (3, 1), (4, 0), (13, 0), (14, 0), (29, 0)])
        self.assertEqual(store.folds([], 0, 30, number=1), [(A, whole)])
        self.refused(Gone, {"labels": A, "at": 0}, store.folds, [], 0, 10, number=1)
        self.assertEqual(store.plan(A, 20, 30, number=1), [("cell", 20, 30)])

    def test_too_late(self):
        store = small_store((20, None, None))
        store.put(A, 55, 1)
        store.expire(60)
        late = {"time": 39, "horizon": 40}
        self.unchanged(store, TooLate, late, store.put, A, 39, 1)
        self.unchanged(store, TooLate, late, store.put, Labels({"new": "one"}), 39, 1)
        self.unchanged(store, TooLate, late, store.put_all, [(B, 40, 1), (A, 41, 1), (A, 39, 1), (A, 0, 1)])
        self.unchanged(store, TooLate, late, store.put_all, [(B, 99, 1), (B, 39, 1)])
        self.unchanged(store, TooLate, late, store.strike, [], 39, 99)
        self.unchanged(store, NoWish, {"at": 1}, store.strike, BAD_WISHES, 39, 99)
        self.unchanged(store, NoWish, {"at": 1}, store.strike, BAD_WISHES, 99, 39)
        self.assertEqual(store.strike([], 39, 39), [])
        self.assertEqual(store.strike([], 39, 0), [])
        store.put(A, 40, 1)
        store.strike([], 40, 41)
        self.assertEqual(store.number, 5)
        self.assertEqual(store.points([], 40, 99), [(A, [(55, 1)])])

    def test_what_is_handed_in_is_neither_changed_nor_kept(self):
        store = small_store()
        rows = [(B, 5, 1), (A, 5, 2)]
        told = store.put_all(rows)
        self.assertEqual(rows, [(B, 5, 1), (A, 5, 2)])
        kept = copy.deepcopy(told)
        rows.clear()
        told.clear()
        wishes = [("has", "a")]
        store.strike(wishes, 0, 1)
        wishes.clear()
        self.assertEqual(store.points([], 0, 99), [(A, [(5, 2)]), (B, [(5, 1)])])
        self.assertEqual(len(kept), 4)
        for action in (
            lambda: store.found([]), lambda: store.points([], 0, 9), lambda: store.points([], 0, 9)[0][1],
            lambda: store.folds([], 0, 9), lambda: store.windows([], 0, step=5, many=2),
            lambda: store.windows([], 0, step=5, many=2)[0][1], lambda: store.plan(A, 0, 9), lambda: store.weights(),
        ):
            ahead = copy.deepcopy(action())
            action().clear()
            self.assertEqual(action(), ahead)


class LettingGo(Refusing):
    def test_expire(self):
        store = small_store((20, 40, None))
        store.put_all([(A, time, time) for time in range(0, 100, 5)])
        self.assertEqual(store.expire(15), (-10, -30, None))
        self.assertEqual(store.points([], 0, 100), [(A, [(time, time) for time in range(0, 100, 5)])])
        self.assertEqual(store.expire(99), (70, 30, None))
        self.refused(Gone, {"labels": None, "at": 69}, store.points, [], 69, 100)
        self.assertEqual(store.points([], 70, 100), [(A, [(time, time) for time in range(70, 100, 5)])])
        # A lesser now sets nothing back.
        self.assertEqual(store.expire(0), (70, 30, None))
        self.assertEqual(store.number, 1)
        self.assertEqual(store.folds([], 0, 60), [(A, fold_of([(time, time) for time in range(0, 60, 5)]))])
        self.assertEqual(store.folds([], 40, 90), [(A, fold_of([(time, time) for time in range(40, 90, 5)]))])
        self.refused(Gone, {"labels": A, "at": 20}, store.folds, [], 20, 90)

    def test_expire_of_rows_in_blocks_and_in_none_yet(self):
        store = small_store((0, None, None))
        store.put_all([(A, 5, 1), (A, 15, 2)])
        store.flush()
        store.put_all([(A, 6, 3), (B, 16, 4), (B, 26, 5)])
        store.expire(20)
        self.assertEqual(store.weights(), [2])
        store.flush()
        # Of five rows one is left, which was in no block.
        self.assertEqual(store.weights(), [2, 1])
        self.assertEqual(store.points([], 20, 99), [(B, [(26, 5)])])
        self.assertEqual(store.forget(store.number), 0)

    def test_a_flush_of_rows_that_all_went(self):
        store = small_store((0, None, None))
        store.put(A, 5, 1)
        store.expire(20)
        store.flush()
        self.assertEqual(store.weights(), [])

    def test_keeps_of_none_let_nothing_go(self):
        store = small_store()
        store.put(A, 5, 1)
        self.assertEqual(store.expire(10 ** 15), (None, None, None))
        self.assertEqual(store.points([], 0, 9), [(A, [(5, 1)])])

    def test_forget(self):
        store = small_store()
        store.put(A, 5, 1)
        store.put(A, 5, 2)
        store.put(A, 6, 3)
        store.strike([], 6, 7)
        store.put(A, 7, 4)
        self.assertEqual(store.forget(-3), 0)
        self.assertEqual(store.weights(), [5])
        self.assertEqual(store.forget(0), 0)
        self.assertEqual(store.forget(3), 1)
        self.refused(NoNumber, {"number": 2}, store.points, [], 0, 9, number=2)
        self.assertEqual(store.points([], 0, 9, number=3), [(A, [(5, 2), (6, 3)])])
        self.assertEqual(store.forget(2), 0)
        self.refused(NoNumber, {"number": 2}, store.found, [], number=2)
        self.assertEqual(store.forget(3), 0)
        self.assertEqual(store.points([], 0, 9, number=4), [(A, [(5, 2)])])
        self.assertEqual(store.forget(5), 2)
        self.assertEqual(store.points([], 0, 9), [(A, [(5, 2), (7, 4)])])
        self.refused(NoNumber, {"number": 4}, store.folds, [], 0, 9, number=4)
        self.unchanged(store, NoNumber, {"number": 6}, store.forget, 6)
        self.assertEqual((store.number, store.weights()), (5, [5]))

    def test_a_forget_that_is_refused_does_not_flush(self):
        store = small_store()
        store.put(A, 5, 1)
        self.unchanged(store, NoNumber, {"number": 2}, store.forget, 2)
        self.assertEqual(store.weights(), [])
        self.assertEqual(store.forget(-(10 ** 14)), 0)
        self.assertEqual(store.weights(), [1])

    def test_flush_and_weights(self):
        store = small_store()
        self.assertIsNone(store.flush())
        self.assertEqual(store.weights(), [])
        for time in range(3):
            store.put(A, time, 1)
            store.flush()
            store.flush()
        self.assertEqual(store.weights(), [2, 1])
        store.put_all([(A, time, 1) for time in range(10, 14)])
        store.flush()
        self.assertEqual(store.weights(), [2, 1, 4])
        self.assertEqual(store.points([], 0, 99), [(A, [(time, 1) for time in [0, 1, 2, 10, 11, 12, 13]])])
        self.assertEqual(store.number, 4)


class Questions(Refusing):
    def setUp(self):
        self.store = small_store()
        self.store.put_all([(B, 5, 1), (A, 5, 2), (A, 25, 3)])
        self.store.put(AB, 5, 7)
        self.store.strike([("has", "b")], 0, 99)
        self.store.put(NONE, 31, 9)

    def test_found(self):
        self.assertEqual(self.store.found([]), [NONE, A, AB, B])
        self.assertEqual(self.store.found([], number=None), [NONE, A, AB, B])
        self.assertEqual([self.store.found([], number=number) for number in range(5)],
                         [[], [A, B], [A, AB, B], [A, AB, B], [NONE, A, AB, B]])
        self.assertEqual(self.store.found([("has", "b"), ("lacks", "a")]), [B])

    def test_points(self):
        self.assertEqual(self.store.points([], 0, 99), [(NONE, [(31, 9)]), (A, [(5, 2), (25, 3)])])
        self.assertEqual(self.store.points([], 0, 25, number=2), [(A, [(5, 2)]), (AB, [(5, 7)]), (B, [(5, 1)])])
        self.assertEqual(self.store.points([("is", "b", "1")], 0, 99, number=1), [(B, [(5, 1)])])
        self.assertEqual(self.store.points([], 5, 5), [])
        self.assertEqual(self.store.points([], 25, 5), [])
        self.assertEqual(self.store.points([], 5, 6), [(A, [(5, 2)])])

    def test_folds(self):
        self.assertEqual(self.store.folds([], 0, 30), [(A, fold_of([(5, 2), (25, 3)]))])
        self.assertEqual(self.store.folds([], 0, 30, number=1), [(A, fold_of([(5, 2), (25, 3)])), (B, fold_of([(5, 1)]))])
        self.assertEqual(self.store.folds([], 30, 30), [])
        self.assertEqual(self.store.folds([], 30, 0), [])
        self.assertEqual(self.store.folds([("has", "b")], 0, 30), [])

    def test_windows(self):
        self.assertEqual(
            self.store.windows([], 0, step=20, many=2),
            [(NONE, [Fold(), fold_of([(31, 9)])]), (A, [fold_of([(5, 2)]), fold_of([(25, 3)])])],
        )
        self.assertEqual(self.store.windows([], 0, step=10), [(A, [fold_of([(5, 2)])])])
        self.assertEqual(self.store.windows([], -200, step=1, many=200), [])
        self.assertEqual(len(self.store.windows([], -100, step=1, many=200)[0][1]), 200)
        self.assertEqual(self.store.windows([("has", "b")], 5, step=1, number=2), [(AB, [fold_of([(5, 7)])]), (B, [fold_of([(5, 1)])])])

    def test_latest(self):
        self.assertEqual(self.store.latest(A, 99), (25, 3))
        self.assertEqual(self.store.latest(A, 25), (25, 3))
        self.assertEqual(self.store.latest(A, 24), (5, 2))
        self.assertIsNone(self.store.latest(A, 4))
        self.assertIsNone(self.store.latest(B, 99))
        self.assertEqual(self.store.latest(B, 99, number=2), (5, 1))
        self.assertEqual(self.store.latest(labels=A, time=99, number=1), (25, 3))
        self.refused(NoSeries, {"at": NONE}, self.store.latest, NONE, 99, number=3)
        self.refused(NoSeries, {"at": Labels({"c": "1"})}, self.store.latest, Labels({"c": "1"}), 99)

    def test_numbers_that_are_refused(self):
        for number in (5, 99, -1):
            fields = {"number": number}
            self.refused(NoNumber, fields, self.store.found, [], number=number)
            self.refused(NoNumber, fields, self.store.points, [], 0, 9, number=number)
            self.refused(NoNumber, fields, self.store.folds, [], 9, 0, number=number)
            self.refused(NoNumber, fields, self.store.windows, [], 0, step=1, number=number)
            self.refused(NoNumber, fields, self.store.latest, A, 9, number=number)
            self.refused(NoNumber, fields, self.store.plan, A, 0, 9, number=number)

    def test_the_order_of_refusals(self):
        store = small_store((0, 0, 0))
        store.put(A, 5, 1)
        store.expire(60)
        wish = {"at": 1}
        number = {"number": 7}
        self.refused(NoWish, wish, store.found, BAD_WISHES, number=7)
        self.refused(NoWish, wish, store.points, BAD_WISHES, 0, 9, number=7)
        self.refused(NoWish, wish, store.folds, BAD_WISHES, 0, 9, number=7)
        self.refused(NoWish, wish, store.windows, BAD_WISHES, 0, step=1, number=7)
        self.refused(NoNumber, number, store.points, [], 0, 9, number=7)
        self.refused(NoNumber, number, store.folds, [], 0, 9, number=7)
        self.refused(NoNumber, number, store.windows, [], 0, step=1, number=7)
        self.refused(NoNumber, number, store.latest, B, 0, number=7)
        self.refused(NoNumber, number, store.plan, B, 0, 9, number=7)
        self.refused(NoSeries, {"at": B}, store.latest, B, 0)
        self.refused(NoSeries, {"at": B}, store.plan, B, 0, 9)
        self.refused(NoSeries, {"at": B}, store.plan, B, 9, 0)
        self.refused(Gone, {"labels": A, "at": 0}, store.latest, A, 0)
        self.refused(Gone, {"labels": A, "at": 0}, store.plan, A, 0, 9)


class GoneAndKept(Refusing):
    def test_points(self):
        store = small_store((0, None, None))
        store.put(A, 35, 1)
        store.expire(25)
        self.refused(Gone, {"labels": None, "at": 19}, store.points, [], 19, 20)
        self.refused(Gone, {"labels": None, "at": -5}, store.points, [("has", "zz")], -5, 99)
        self.assertEqual(store.points([], 20, 99), [(A, [(35, 1)])])
        self.assertEqual(store.points([], 19, 19), [])
        self.assertEqual(store.points([], 19, 0), [])
        # Also of a number ahead of the expiry, and of a store without series.
        self.refused(Gone, {"labels": None, "at": 19}, store.points, [], 19, 20, number=0)

    def test_folds_that_cells_make_up(self):
        store = small_store((0, 0, None))
        store.put_all([(A, 3, 1), (A, 33, 2), (A, 44, 3), (A, 61, 4), (B, 75, 1)])
        self.assertEqual(store.expire(70), (70, 60, None))
        self.assertEqual(store.folds([], 0, 90), [(A, fold_of([(3, 1), (33, 2), (44, 3), (61, 4)])), (B, fold_of([(75, 1)]))])
        self.assertEqual(store.folds([], 30, 70), [(A, fold_of([(33, 2), (44, 3), (61, 4)]))])
        self.assertEqual(store.folds([], 60, 71), [(A, fold_of([(61, 4)]))])
        self.assertEqual(store.folds([], -30, 0), [])
        for start, end in ((0, 40), (10, 90), (0, 59), (40, 50), (61, 90), (65, 66)):
            self.refused(Gone, {"labels": A, "at": start}, store.folds, [], start, end)
        # B never had a point there, but for it, too, nothing is left that tells it.
        self.refused(Gone, {"labels": B, "at": 40}, store.folds, [("has", "b")], 40, 50)
        self.assertEqual(store.folds([("has", "zz")], 40, 50), [])
        self.assertEqual(store.folds([], 50, 40), [])

    def test_windows_by_the_first_series_and_its_first_window(self):
        store = small_store((0, 0, None))
        store.put_all([(A, 3, 1), (B, 75, 1)])
        store.expire(70)
        self.refused(Gone, {"labels": A, "at": 0}, store.windows, [], 0, step=15, many=5)
        self.refused(Gone, {"labels": B, "at": 0}, store.windows, [("has", "b")], 0, step=15, many=5)
        self.refused(Gone, {"labels": A, "at": 61}, store.windows, [], 61, step=30, many=2)
        self.assertEqual(store.windows([], 0, step=30, many=3), [
            (A, [fold_of([(3, 1)]), Fold(), Fold()]), (B, [Fold(), Fold(), fold_of([(75, 1)])]),
        ])

    def test_cells_whose_since_is_above_the_number(self):
        store = small_store((0, None, None))
        store.put(A, 5, 1)
        store.put(B, 5, 2)
        store.put(A, 6, 3)
        store.put(B, 25, 4)
        store.expire(10)
        # A's cell changed at 3, B's at 2; that of thirty of B at 4.
        self.assertEqual(store.folds([("has", "a")], 0, 10, number=3), [(A, fold_of([(5, 1), (6, 3)]))])
        self.refused(Gone, {"labels": A, "at": 0}, store.folds, [], 0, 10, number=2)
        self.refused(Gone, {"labels": A, "at": 0}, store.folds, [], 0, 10, number=1)
        self.assertEqual(store.folds([], 0, 10, number=0), [])
        self.assertEqual(store.folds([("has", "b")], 0, 10, number=2), [(B, fold_of([(5, 2)]))])
        self.assertEqual(store.folds([("has", "b")], 0, 30, number=3), [(B, fold_of([(5, 2)]))])
        self.assertEqual(store.plan(B, 0, 30, number=3), [("cell", 0, 10), ("points", 10, 30)])
        # B's series doesn't stand at 1.
        self.assertEqual(store.folds([("has", "b")], 0, 10, number=1), [])

    def test_a_cell_that_lost_its_points_has_a_since_too(self):
        store = small_store((0, None, None))
        store.put(A, 5, 1)
        store.strike([], 5, 6)
        store.put(A, 15, 1)
        store.expire(10)
        self.assertEqual(store.folds([], 0, 10, number=2), [])
        self.refused(Gone, {"labels": A, "at": 0}, store.folds, [], 0, 10, number=1)

    def test_latest(self):
        store = small_store((0, None, None))
        store.put(A, 5, 1)
        store.put(A, 8, 2)
        store.put(B, 3, 9)
        store.put(A, 25, 3)
        store.expire(12)
        store.put(A, 11, 4)
        self.assertEqual(store.latest(A, 30), (25, 3))
        self.assertEqual(store.latest(A, 30, number=4), (25, 3))
        self.assertEqual(store.latest(A, 24), (11, 4))
        # From the number of the expiry on the last point below the horizon is told.
        self.assertEqual(store.latest(A, 24, number=4), (8, 2))
        self.assertEqual(store.latest(A, 10, number=5), (8, 2))
        self.assertEqual(store.latest(B, 10), (3, 9))
        self.refused(Gone, {"labels": A, "at": 10}, store.latest, A, 24, number=3)
        self.refused(Gone, {"labels": A, "at": 9}, store.latest, A, 9)
        self.refused(Gone, {"labels": A, "at": 9}, store.latest, A, 9, number=1)
        self.refused(NoSeries, {"at": B}, store.latest, B, 9, number=2)
        # The horizon goes on: what was told at 4 can't be told any more.
        store.expire(30)
        self.refused(Gone, {"labels": A, "at": 30}, store.latest, A, 99, number=4)
        self.assertEqual(store.latest(A, 99), (25, 3))
        self.assertEqual(store.latest(B, 99), (3, 9))
        # An expiry that sets no other horizon changes nothing there.
        store.put(A, 45, 1)
        store.expire(30)
        self.assertEqual(store.latest(A, 44, number=5), (25, 3))

    def test_latest_of_a_series_that_came_behind_the_expiry(self):
        store = small_store((0, None, None))
        store.put(A, 5, 1)
        store.expire(12)
        store.put(B, 20, 1)
        self.assertIsNone(store.latest(B, 19))
        self.refused(NoSeries, {"at": B}, store.latest, B, 19, number=1)

    def test_an_edge_that_was_struck_is_none(self):
        store = small_store((0, None, None))
        store.put(A, 5, 1)
        store.put(A, 8, 1)
        store.strike([], 8, 9)
        store.expire(12)
        self.assertEqual(store.latest(A, 10), (5, 1))

    def test_a_horizon_at_its_first_expiry_below_all(self):
        store = small_store((0, None, None))
        store.put(A, 5, 1)
        store.expire(-99)
        self.refused(Gone, {"labels": A, "at": -101}, store.latest, A, -101)
        self.assertIsNone(store.latest(A, 4))
        self.refused(NoSeries, {"at": A}, store.latest, A, 4, number=0)


class Plans(Refusing):
    def test_plan(self):
        store = small_store()
        store.put_all([(A, time, 1) for time in range(0, 60, 3)])
        self.assertEqual(store.plan(A, 0, 60), [("cell", 0, 30), ("cell", 30, 60)])
        self.assertEqual(store.plan(A, 0, 50), [("cell", 0, 30), ("cell", 30, 40), ("cell", 40, 50)])
        self.assertEqual(store.plan(A, 0, 0), [])
        self.assertEqual(store.plan(A, 9, 0), [])
        self.assertEqual(store.plan(A, 60, 99), [("points", 60, 99)])
        pieces = store.plan(labels=A, start=1, end=59, number=1)
        self.assertEqual(pieces[0][1], 1)
        self.assertEqual(pieces[-1][2], 59)
        # One piece of points, four cells of ten: of 1 to 10 three points, of 50 to 59 three.
        self.assertEqual(sum(1 if word == "cell" else len(range(start + -start % 3, end, 3)) for word, start, end in pieces), 10)

    def test_plan_at_numbers(self):
        store = small_store()
        store.put_all([(A, 1, 1), (A, 2, 1), (A, 3, 1)])
        store.put(A, 4, 1)
        # The cells changed at 2: at 1 there are but the points.
        self.assertEqual(store.plan(A, 0, 10, number=1), [("points", 0, 10)])
        self.assertEqual(store.plan(A, 0, 10, number=2), [("cell", 0, 10)])
        self.refused(NoSeries, {"at": A}, store.plan, A, 0, 10, number=0)

    def test_gone(self):
        store = small_store((0, 0, None))
        store.put(A, 5, 1)
        store.expire(60)
        self.assertEqual(store.plan(A, 0, 90), [("cell", 0, 30), ("cell", 30, 60), ("points", 60, 90)])
        self.refused(Gone, {"labels": A, "at": 1}, store.plan, A, 1, 90)
        self.assertEqual(store.plan(A, 1, 1), [])
        self.refused(NoSeries, {"at": B}, store.plan, B, 1, 90)

    def test_wide_stretches_above_the_horizon(self):
        store = Store()
        store.put_all([(A, time, 1) for time in range(100)])
        self.assertEqual(store.plan(A, 0, 10 ** 12), [("cell", 0, 3600), ("points", 3600, 10 ** 12)])
        self.assertEqual(store.folds([], -(10 ** 12), 10 ** 12)[0][1].count, 100)


class Snapshots(Refusing):
    def answers(self, asked, labels):
        told = []
        for action in (
            lambda: asked.found([]), lambda: asked.points([], 0, 99), lambda: asked.points([("has", "a")], 60, 99),
            lambda: asked.folds([], 0, 90), lambda: asked.folds([], 1, 90), lambda: asked.windows([], 0, step=30, many=3),
            lambda: asked.windows([], 70, step=5), lambda: asked.latest(labels, 99), lambda: asked.latest(labels, 0),
            lambda: asked.plan(labels, 0, 90), lambda: asked.plan(labels, 9, 9), lambda: asked.latest(B, 99),
            lambda: asked.found(BAD_WISHES),
        ):
            try:
                told.append(action())
            except (Gone, NoSeries, NoWish) as refusal:
                told.append((type(refusal), sorted(vars(refusal).items())))
        return told

    def test_each_later_deed_changes_nothing(self):
        store = small_store((20, 40, None))
        store.put_all([(A, time, time) for time in range(0, 90, 7)])
        store.put(A, 3, 9)
        deeds = (
            lambda: store.put(A, 3, 10), lambda: store.put(B, 50, 1), lambda: store.strike([], 40, 60), lambda: store.flush(),
            lambda: store.forget(store.number - 1), lambda: store.expire(60), lambda: store.put(B, 70, 2),
            lambda: store.flush(), lambda: store.strike([("has", "b")], 50, 99), lambda: store.forget(store.number),
            lambda: store.expire(200), lambda: store.put_all([(NONE, 300, 1), (A, 300, 2)]), lambda: store.mark(),
            lambda: store.watch([], 400, width=5),
        )
        kept = []
        for deed in deeds:
            snapshot = store.snapshot()
            now = self.answers(store, A)
            self.assertEqual(self.answers(snapshot, A), now)
            kept.append((snapshot, now))
            deed()
            for elder, told in kept:
                self.assertEqual(self.answers(elder, A), told)

    def test_a_snapshot_of_a_store_without_points(self):
        store = small_store()
        snapshot = store.snapshot()
        store.put(A, 5, 1)
        self.assertEqual(snapshot.found([]), [])
        self.assertEqual(snapshot.windows(wishes=[], start=0, step=10, many=2), [])
        self.refused(NoSeries, {"at": A}, snapshot.latest, A, 9)
        self.refused(NoSeries, {"at": A}, snapshot.plan, A, 0, 9)

    def test_making_one_leaves_no_line(self):
        store = small_store()
        store.put(A, 5, 1)
        ahead = all_of(store)
        store.snapshot()
        self.assertEqual(all_of(store), ahead)


class Lines(Refusing):
    def test_lines_of_each_deed(self):
        store = small_store((0, None, None))
        store.put(A, 5, 1)
        store.put(A, 5, 1)
        store.put_all([])
        store.put_all([(NONE, 5, 1), (AB, -6, -2)])
        store.strike([("has", "a"), ("oneof", "b", ("1", "2"))], 0, 9)
        store.strike([], 9, 0)
        store.expire(-20)
        store.expire(-90)
        store.forget(2)
        store.forget(-5)
        store.flush()
        store.flush()
        log, mark, bodies, rest = read_log(store.lines())
        self.assertEqual((mark, rest), (None, ""))
        self.assertEqual(bodies, [
            "put a=1 5 1", "put a=1 5 1", "all 0", "all 2 - 5 1 a=1,b=1 -6 -2", "strike 0..9 a b=(1|2)", "strike 9..0 *",
            "expire -20", "expire -90", "forget 2", "forget -5", "flush", "flush",
        ])
        self.assertEqual(store.number, 6)

    def test_questions_and_refused_deeds_leave_no_line(self):
        store = small_store((0, None, None))
        store.put(A, 5, 1)
        store.expire(20)
        lines = store.lines()
        for action in (
            lambda: store.put(A, 5, 1), lambda: store.strike([], 5, 6), lambda: store.forget(2), lambda: store.points([], 0, 9),
            lambda: store.strike(BAD_WISHES, 30, 40),
        ):
            with self.assertRaises((TooLate, NoNumber, Gone, NoWish)):
                action()
        store.found([])
        store.latest(A, 30)
        store.mark()
        store.watch([], 20, width=5)
        self.assertEqual(store.lines(), lines)


class Bounds(Refusing):
    def test_two_thousand_points_of_forty_series_and_great_numbers(self):
        store = Store(widths=(1, 10, 100, 1000), keeps=(None,) * 5)
        great = 10 ** 15 - 1
        rows = [(Labels({"k": str(at % 40)}), at * 3 - great, great - at) for at in range(2000)]
        store.put_all(rows)
        store.flush()
        self.assertEqual(len(store.found([])), 40)
        told = store.folds([("is", "k", "7")], -great, -great + 400)
        self.assertEqual(told, [(Labels({"k": "7"}), fold_of([row[1:] for row in rows if row[0] == Labels({"k": "7"})][:4]))])
        self.assertEqual(store.points([("is", "k", "39")], -great, great)[0][1][-1], (1999 * 3 - great, great - 1999))
        self.assertLess(len(store.mark()), 900000)


if __name__ == "__main__":
    unittest.main()
