"""[32]: watches."""

import copy
import random
import unittest

from plain_model import outcome, plain_fold
from test_histories import SETTINGS, WISHES, History
from timegranary.errors import Gone, NoWish
from timegranary.folds import Fold, fold_of
from timegranary.labels import Labels
from timegranary.store import Store
from timegranary.watchers import Watch

A = Labels({"a": "1"})
B = Labels({"b": "1"})


def small_store(keeps=(None, None, None)):
    return Store(widths=(10, 30), keeps=keeps)


class Watching(unittest.TestCase):
    def test_told_at_first_and_right_behind_a_told(self):
        store = small_store()
        store.put_all([(B, 5, 1), (A, 5, 2), (A, 25, 3), (A, 35, 9)])
        watch = store.watch([], 0, width=15, many=2)
        self.assertIsInstance(watch, Watch)
        first = fold_of([(5, 2)])
        second = fold_of([(25, 3)])
        other = fold_of([(5, 1)])
        self.assertEqual(watch.now(), [(A, 0, first), (A, 15, second), (B, 0, other)])
        self.assertEqual(watch.told(), [(A, 0, Fold(), first), (A, 15, Fold(), second), (B, 0, Fold(), other)])
        self.assertEqual(watch.told(), [])
        self.assertEqual(watch.now(), [(A, 0, first), (A, 15, second), (B, 0, other)])

    def test_puts_puts_again_strikes_and_later_series(self):
        store = small_store()
        watch = store.watch([("has", "a")], 0, width=10, many=3)
        self.assertEqual((watch.told(), watch.now()), ([], []))
        store.put(A, 5, 1)
        store.put(A, 5, 1)
        store.put(B, 5, 1)
        self.assertEqual(watch.told(), [(A, 0, Fold(), fold_of([(5, 1)]))])
        store.put(A, 5, 1)
        self.assertEqual(watch.told(), [])
        store.put(A, 5, 2)
        store.put(A, 30, 2)
        store.put(A, -1, 2)
        store.put(A, 29, 3)
        self.assertEqual(
            watch.told(), [(A, 0, fold_of([(5, 1)]), fold_of([(5, 2)])), (A, 20, Fold(), fold_of([(29, 3)]))]
        )
        store.strike([], 0, 20)
        both = Labels({"a": "0", "b": "1"})
        store.put(both, 15, 7)
        self.assertEqual(watch.now(), [(both, 10, fold_of([(15, 7)])), (A, 20, fold_of([(29, 3)]))])
        self.assertEqual(
            watch.told(), [(both, 10, Fold(), fold_of([(15, 7)])), (A, 0, fold_of([(5, 2)]), Fold())]
        )
        self.assertEqual(watch.told(), [])

    def test_what_comes_and_goes_between_two_tolds_is_not_told(self):
        store = small_store()
        watch = store.watch([], 0, width=10)
        store.put(A, 5, 1)
        store.strike([], 0, 9)
        self.assertEqual((watch.told(), watch.now()), ([], []))
        store.put(A, 5, 1)
        watch.told()
        store.put(A, 5, 2)
        store.put(A, 5, 1)
        self.assertEqual(watch.told(), [])

    def test_what_is_let_go_while_it_watches_stays(self):
        store = small_store((0, 0, 0))
        store.put(A, 5, 1)
        watch = store.watch([], 0, width=7, many=10)
        store.put(A, 6, 2)
        store.expire(30)
        self.assertEqual(watch.now(), [(A, 0, fold_of([(5, 1), (6, 2)]))])
        self.assertEqual(watch.told(), [(A, 0, Fold(), fold_of([(5, 1), (6, 2)]))])
        store.put(A, 34, 3)
        store.expire(90)
        self.assertEqual(watch.told(), [(A, 28, Fold(), fold_of([(34, 3)]))])
        self.assertEqual(watch.now(), [(A, 0, fold_of([(5, 1), (6, 2)])), (A, 28, fold_of([(34, 3)]))])

    def test_a_window_of_which_a_part_is_let_go_goes_on(self):
        store = small_store((0, None, None))
        store.put_all([(A, 5, 1), (A, 15, 2)])
        watch = store.watch([], 3, width=20)
        store.expire(10)
        store.put(A, 16, 3)
        store.strike([], 15, 16)
        self.assertEqual(watch.told(), [(A, 3, Fold(), fold_of([(5, 1), (16, 3)]))])

    def test_made_behind_an_expiry(self):
        store = small_store((0, 0, None))
        store.put_all([(A, 5, 1), (A, 33, 2), (A, 75, 3), (B, 77, 4)])
        self.assertEqual(store.expire(70), (70, 60, None))
        watch = store.watch([], 0, width=30, many=3)
        self.assertEqual(
            watch.now(),
            [(A, 0, fold_of([(5, 1)])), (A, 30, fold_of([(33, 2)])), (A, 60, fold_of([(75, 3)])), (B, 60, fold_of([(77, 4)]))],
        )
        store.put(A, 76, 9)
        store.put(Labels(), 80, 1)
        store.expire(200)
        self.assertEqual(watch.now()[0], (Labels(), 60, fold_of([(80, 1)])))
        self.assertEqual(watch.now()[3], (A, 60, fold_of([(75, 3), (76, 9)])))

    def test_expired_points_of_a_window_across_the_horizon(self):
        store = small_store((0, None, None))
        store.put_all([(A, 5, 1), (A, 15, 2), (A, 25, 3)])
        store.expire(20)
        watch = store.watch([], 0, width=30)
        self.assertEqual(watch.told(), [(A, 0, Fold(), fold_of([(5, 1), (15, 2), (25, 3)]))])
        store.strike([], 20, 30)
        self.assertEqual(watch.now(), [(A, 0, fold_of([(5, 1), (15, 2)]))])

    def test_refused(self):
        store = small_store((0, 0, None))
        store.put_all([(A, 5, 1), (B, 77, 4)])
        store.expire(70)
        with self.assertRaises(NoWish) as caught:
            store.watch([("has", "a"), ()], 0, width=7)
        self.assertEqual(caught.exception.at, 1)
        for wishes, start, width, many, labels, at in (
            ([], 0, 15, 3, A, 0), ([], 61, 10, 2, A, 61), ([("has", "b")], 30, 20, 9, B, 30), ([], 60, 4, 9, A, 60),
            ([], -30, 45, 2, A, -30), ([], 30, 30, 2, None, None), ([], 30, 30, 3, None, None), ([], 70, 7, 2, None, None),
            ([("has", "c")], 3, 5, 9, None, None), ([], -60, 60, 2, None, None), ([], 0, 60, 2, None, None),
            ([], 0, 65, 1, A, 0), ([], 60, 15, 4, None, None), ([], 0, 69, 1, A, 0),
        ):
            if at is None:
                store.watch(wishes, start, width=width, many=many)
                continue
            ahead = (store.lines(), store.mark())
            with self.assertRaises(Gone) as caught:
                store.watch(wishes, start, width=width, many=many)
            self.assertEqual((caught.exception.labels, caught.exception.at), (labels, at))
            self.assertEqual((store.lines(), store.mark()), ahead)

    def test_refused_window_by_window(self):
        store = small_store((0, 0, 0))
        store.put(A, 95, 1)
        store.put(B, 95, 1)
        store.expire(95)
        # Of the first window the first series, though another series' later window is refused, too.
        with self.assertRaises(Gone) as caught:
            store.watch([], 85, width=3, many=3)
        self.assertEqual((caught.exception.labels, caught.exception.at), (A, 85))

    def test_questions_and_others_change_nothing(self):
        store = small_store()
        store.put(A, 5, 1)
        watch = store.watch([], 0, width=10)
        other = store.watch([], 0, width=10)
        other.told()
        store.points([], 0, 9)
        store.snapshot()
        store.flush()
        store.put(A, 5, 2)
        store.forget(2)
        other.now()
        store.mark()
        self.assertEqual(watch.told(), [(A, 0, Fold(), fold_of([(5, 2)]))])
        self.assertEqual(other.told(), [(A, 0, fold_of([(5, 1)]), fold_of([(5, 2)]))])

    def test_lists_are_the_askers(self):
        store = small_store()
        store.put(A, 5, 1)
        wishes = [("has", "a")]
        watch = store.watch(wishes, 0, width=10)
        wishes[0] = ("has", "b")
        store.put(B, 5, 1)
        now = copy.deepcopy(watch.now())
        watch.now().clear()
        self.assertEqual(watch.now(), now)
        watch.told().clear()
        self.assertEqual(watch.told(), [])
        self.assertEqual(watch.now(), [(A, 0, fold_of([(5, 1)]))])

    def test_two_hundred_windows(self):
        store = small_store()
        store.put_all([(A, time, time) for time in range(-5, 205)])
        watch = store.watch([], 0, width=1, many=200)
        self.assertEqual([start for labels, start, fold in watch.now()], list(range(200)))


class Drawn(unittest.TestCase):
    """Watches of drawn histories, against the points that the plain model keeps for ever."""

    def elder_outcome(self, model, wishes, start, width, many):
        horizon = model.horizons[0]
        for at in range(many):
            window = start + at * width
            if horizon is not None and window < horizon:
                model.many_folds(wishes, [(window, min(window + width, horizon))], None)

    def plain_now(self, model, wishes, start, width, many):
        told = {}
        for pairs in model.series(wishes, model.number):
            for at in range(many):
                window = start + at * width
                fold = plain_fold(model.all_points(pairs, model.number, window, window + width))
                if fold.count > 0:
                    told[pairs, window] = fold
        return told

    def test_against_the_plain_model(self):
        self.seen = {"told": 0, "Gone": 0}
        for widths, keeps, scale in SETTINGS:
            for seed in range(6):
                with self.subTest(widths=widths, seed=seed):
                    self.live(random.Random(seed + 50), widths, keeps, scale)
        self.assertGreater(min(self.seen.values()), 50)

    def live(self, chance, widths, keeps, scale):
        history = History(self, chance, widths, keeps, scale)
        watches = []
        for at in range(50):
            ahead = history.store
            history.deed()
            if history.store is not ahead:
                # A store that came up has no watches.
                watches = []
            if chance.random() < 0.3:
                settings = (chance.choice(WISHES), *self.windows(history))
                told = outcome(
                    lambda: history.store.watch(settings[0], settings[1], width=settings[2], many=settings[3])
                )
                expected = outcome(lambda: self.elder_outcome(history.model, *settings))
                self.assertEqual(told[0], expected[0])
                self.seen[told[0]] += 1
                if told[0] == "Gone":
                    self.assertEqual(told, expected)
                else:
                    watches.append([told[1], settings, {}])
            for watched in watches:
                self.look(history.model, watched, chance)

    def windows(self, history):
        width = history.chance.choice([1, 3, history.scale, *history.widths[:2]])
        start = history.time() - history.chance.randint(0, 6 * history.scale)
        if history.chance.random() < 0.6:
            start = start // width * width
        return start, width, history.chance.randint(1, 12)

    def look(self, model, watched, chance):
        watch, settings, last = watched
        now = self.plain_now(model, *settings)
        self.assertEqual(watch.now(), [(model.labels[pairs], start, now[pairs, start]) for pairs, start in sorted(now)])
        if chance.random() < 0.5:
            changed = [key for key in sorted({**last, **now}) if last.get(key) != now.get(key)]
            self.assertEqual(
                watch.told(),
                [(model.labels[key[0]], key[1], last.get(key, Fold()), now.get(key, Fold())) for key in changed],
            )
            watched[2] = now


if __name__ == "__main__":
    unittest.main()
