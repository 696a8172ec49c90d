import random
import unittest

from timegranary.errors import NoDeed, NoGrain
from timegranary.folds import Fold, fold_of
from timegranary.grains import Grains

GREAT = 10 ** 15 - 1


def cell_start(time, width):
    return time // width * width


class Series:
    """The plain model: the points of a series, and what it was asked for by renew."""

    def __init__(self, points=()):
        self.points = dict(points)
        self.asked = []

    def told(self):
        return sorted(self.points.items())

    def points_in(self, start, end):
        self.asked.append((start, end))
        return [point for point in self.told() if start <= point[0] < end]

    def fold(self, start, end):
        return fold_of([point for point in self.told() if start <= point[0] < end])


class Refused(Exception):
    pass


class Case(unittest.TestCase):
    def refused_at(self, asked, *things):
        with self.assertRaises(NoGrain) as caught:
            asked(*things)
        return caught.exception.at

    def filled(self, widths=(10, 60, 600), points=((0, 1), (5, 2), (12, 3), (61, 4), (700, 5), (-1, 6))):
        grains, series = Grains(widths), Series(points)
        grains.renew(0, list(series.points), series.points_in, number=1)
        series.asked.clear()
        return grains, series

    def state(self, grains, places=(0, 1)):
        """All that can be asked of the folds at some times."""
        told = []
        for place in places:
            for width in grains.widths:
                told.append(grains.cells_of(place, width))
                for time in (-700, -61, -1, 0, 5, 12, 59, 61, 599, 600, 700, 5000):
                    told.append((grains.fold_at(place, width, time), grains.since_at(place, width, time)))
        return told, grains.widths, grains.busy


class Widths(Case):
    def test_good_ones(self):
        for widths in ((1,), (60,), (60, 3600), (1, 2, 4, 8), (7, 21, 42, 84), (1, GREAT), (5, 10, 100, 1000)):
            grains = Grains(widths)
            self.assertEqual((grains.widths, grains.busy), (widths, False))
        self.assertEqual(Grains(widths=(60, 120)).widths, (60, 120))

    def test_none_and_too_many(self):
        self.assertEqual(self.refused_at(Grains, ()), 0)
        self.assertEqual(self.refused_at(Grains, (1, 2, 4, 8, 16)), 4)
        self.assertEqual(self.refused_at(Grains, (1, 2, 4, 8, 9, 0)), 4)
        self.assertEqual(self.refused_at(Grains, (1, 2, 4, 8, 0)), 4)
        self.assertEqual(self.refused_at(Grains, (1, 2, 4, 9, 18)), 3)
        self.assertEqual(self.refused_at(Grains, (0, 2, 4, 8, 16)), 0)

    def test_a_width_below_1(self):
        for width in (0, -1, -60):
            self.assertEqual(self.refused_at(Grains, (width,)), 0)
            self.assertEqual(self.refused_at(Grains, (60, width)), 1)
            self.assertEqual(self.refused_at(Grains, (60, 3600, width, 5)), 2)

    def test_no_greater_multiple(self):
        for width in (60, 61, 90, 119, 30, 1, 20):
            self.assertEqual(self.refused_at(Grains, (60, width)), 1)
            self.assertEqual(self.refused_at(Grains, (30, 60, width)), 2)
        self.assertEqual(self.refused_at(Grains, (60, 90, 7)), 1)
        self.assertEqual(self.refused_at(Grains, (2, 4, 12, 18)), 3)

    def test_what_is_no_whole_number(self):
        for thing in (True, None, "60", (60,)):
            self.assertEqual(self.refused_at(Grains, (thing,)), 0)
            self.assertEqual(self.refused_at(Grains, (1, 60, thing)), 2)

    def test_a_width_that_is_none_of_theirs(self):
        grains, series = self.filled()
        ahead = self.state(grains)
        for width in (0, 1, -10, 20, 59, 6000, 10 ** 14):
            self.assertEqual(self.refused_at(grains.fold_at, 0, width, 5), width)
            self.assertEqual(self.refused_at(grains.since_at, 0, width, 5), width)
            self.assertEqual(self.refused_at(grains.cells_of, 0, width), width)
            self.assertEqual(self.refused_at(grains.let_go, width, 1000), width)
            self.assertEqual(self.refused_at(grains.cells_of, 9, width), width)
        self.assertEqual(self.state(grains), ahead)


class Asked(Case):
    def test_with_and_without_points(self):
        grains, series = self.filled()
        self.assertEqual(grains.cells_of(0, 10), [-10, 0, 10, 60, 700])
        self.assertEqual(grains.cells_of(0, 60), [-60, 0, 60, 660])
        self.assertEqual(grains.cells_of(width=600, place=0), [-600, 0, 600])
        self.assertTrue(grains.fold_at(0, 10, 0) == fold_of([(0, 1), (5, 2)]))
        self.assertTrue(grains.fold_at(0, 10, 9) == fold_of([(0, 1), (5, 2)]))
        self.assertTrue(grains.fold_at(0, 60, 59) == fold_of([(0, 1), (5, 2), (12, 3)]))
        self.assertTrue(grains.fold_at(time=599, width=600, place=0) == fold_of([(0, 1), (5, 2), (12, 3), (61, 4)]))
        self.assertTrue(grains.fold_at(0, 10, 20) == Fold())
        self.assertTrue(grains.fold_at(0, 60, 5000) == Fold())
        self.assertEqual(grains.since_at(time=9, width=10, place=0), 1)
        self.assertEqual([grains.since_at(0, 10, 20), grains.since_at(0, 600, 5000)], [0, 0])

    def test_times_below_0(self):
        grains, series = self.filled()
        for width in (10, 60, 600):
            self.assertTrue(grains.fold_at(0, width, -1) == fold_of([(-1, 6)]))
            self.assertTrue(grains.fold_at(0, width, -width) == fold_of([(-1, 6)]))
            self.assertTrue(grains.fold_at(0, width, -width - 1) == Fold())
            self.assertEqual([grains.since_at(0, width, time) for time in (-1, -width, -width - 1)], [1, 1, 0])

    def test_places_without_points(self):
        grains, series = self.filled()
        for place in (1, 2, -1, 99):
            for width in (10, 60, 600):
                self.assertTrue(grains.fold_at(place, width, 0) == Fold())
                self.assertEqual((grains.since_at(place, width, 0), grains.cells_of(place, width)), (0, []))
            self.assertIs(grains.right(place, []), True)

    def test_told_lists_are_new(self):
        grains, series = self.filled()
        grains.cells_of(0, 10).clear()
        self.assertEqual(grains.cells_of(0, 10), [-10, 0, 10, 60, 700])


class Renew(Case):
    def test_of_no_times(self):
        grains, series = self.filled()
        ahead = self.state(grains)
        self.assertEqual(grains.renew(0, [], series.points_in, number=2), [])
        self.assertEqual(grains.renew(1, [], series.points_in, number=2), [])
        self.assertEqual(series.asked, [])
        self.assertEqual(self.state(grains), ahead)

    def test_in_any_order_and_twice(self):
        grains, series = Grains((10, 60)), Series({5: 1, 61: 2, -3: 3, 12: 4})
        told = grains.renew(0, [61, 5, 5, -3, 12, 7, 61], series.points_in, number=9)
        self.assertEqual(series.asked, [(-10, 0), (0, 10), (10, 20), (60, 70)])
        self.assertEqual([change[:2] for change in told], [
            (10, -10), (10, 0), (10, 10), (10, 60), (60, -60), (60, 0), (60, 60),
        ])
        self.assertIs(grains.right(0, series.told()), True)

    def test_the_changes(self):
        grains, series = self.filled()
        series.points[12] = 8
        told = grains.renew(place=0, times=[12], points_in=series.points_in, number=2)
        self.assertEqual(series.asked, [(10, 20)])
        self.assertEqual([change[:2] for change in told], [(10, 10), (60, 0), (600, 0)])
        self.assertTrue(told[0][2] == fold_of([(12, 3)]) and told[0][3] == fold_of([(12, 8)]))
        self.assertTrue(told[1][2] == fold_of([(0, 1), (5, 2), (12, 3)]))
        self.assertTrue(told[1][3] == fold_of([(0, 1), (5, 2), (12, 8)]))
        self.assertTrue(told[2][3] == fold_of([(0, 1), (5, 2), (12, 8), (61, 4)]))
        self.assertEqual([type(told), type(told[0])], [list, tuple])
        self.assertEqual([grains.since_at(0, 10, time) for time in (0, 12, 61, 700)], [1, 2, 1, 1])
        self.assertEqual([grains.since_at(0, 60, time) for time in (0, 12, 61, 700)], [2, 2, 1, 1])
        self.assertEqual([grains.since_at(0, 600, time) for time in (0, 12, 61, 700)], [2, 2, 2, 1])

    def test_just_the_cells_whose_fold_is_another_one_now(self):
        grains, series = self.filled()
        told = grains.renew(0, [0, 12, 30, 700, 5000], series.points_in, number=2)
        self.assertEqual(told, [])
        self.assertEqual(series.asked, [(0, 10), (10, 20), (30, 40), (700, 710), (5000, 5010)])
        self.assertEqual([grains.since_at(0, 10, time) for time in (0, 12, 30, 700, 5000)], [1, 1, 0, 1, 0])
        self.assertEqual(grains.cells_of(0, 10), [-10, 0, 10, 60, 700])

    def test_points_that_are_gone(self):
        grains, series = self.filled()
        del series.points[61], series.points[12]
        told = grains.renew(0, [61, 12], series.points_in, number=2)
        self.assertEqual([change[:2] for change in told], [(10, 10), (10, 60), (60, 0), (60, 60), (600, 0)])
        self.assertTrue(told[0][3] == Fold() and told[1][3] == Fold() and told[3][3] == Fold())
        self.assertEqual(grains.cells_of(0, 10), [-10, 0, 700])
        self.assertEqual([grains.since_at(0, 10, 12), grains.since_at(0, 10, 61), grains.since_at(0, 60, 61)], [2] * 3)
        self.assertTrue(grains.fold_at(0, 10, 12) == Fold())
        series.points[12] = 3
        told = grains.renew(0, [12], series.points_in, number=3)
        self.assertTrue(told[0][2] == Fold() and told[0][3] == fold_of([(12, 3)]))
        self.assertEqual(grains.since_at(0, 10, 12), 3)

    def test_series_by_themselves(self):
        grains, one, two = Grains((10, 60)), Series({0: 1, 20: 2}), Series({0: 7})
        grains.renew(3, [0, 20], one.points_in, number=1)
        grains.renew(4, [0], two.points_in, number=2)
        self.assertTrue(grains.right(3, one.told()) and grains.right(4, two.told()))
        self.assertFalse(grains.right(3, two.told()) or grains.right(4, one.told()))
        self.assertEqual([grains.since_at(place, 60, 0) for place in (3, 4, 5)], [1, 2, 0])

    def test_handed_lists_are_not_changed(self):
        grains, series = self.filled()
        times = [700, 0, 0, 12]
        told = grains.renew(0, times, series.points_in, number=2)
        self.assertEqual(times, [700, 0, 0, 12])
        points = [(0, 9)]
        told = grains.renew(1, [0], lambda start, end: points, number=3)
        self.assertEqual(points, [(0, 9)])
        points.append((1, 1))
        told.clear()
        self.assertTrue(grains.fold_at(1, 10, 0) == fold_of([(0, 9)]))
        with self.assertRaises(TypeError):
            grains.renew(0, [], series.points_in, 4)

    def test_times_that_are_changed_meanwhile(self):
        grains, series = self.filled()
        series.points.update({12: 9, 300: 1})
        times = [12, 300]

        def points_in(start, end):
            times.clear()
            return series.points_in(start, end)

        self.assertEqual(len(grains.renew(0, times, points_in, number=2)), 5)
        self.assertIs(grains.right(0, series.told()), True)

    def test_busy_and_what_is_asked_meanwhile(self):
        grains, series = self.filled()
        ahead = self.state(grains)[0]
        series.points.update({12: 9, 300: 1})
        seen = []

        def points_in(start, end):
            seen.append((grains.busy, self.state(grains)[0] == ahead, grains.right(0, series.told())))
            return series.points_in(start, end)

        grains.renew(0, [12, 300], points_in, number=2)
        self.assertEqual(seen, [(True, True, False)] * 2)
        self.assertIs(grains.busy, False)
        self.assertIs(grains.right(0, series.told()), True)

    def test_deeds_meanwhile_are_refused(self):
        grains, series = self.filled()
        series.points[12] = 9
        refusals = []

        def points_in(start, end):
            deeds = (
                lambda: grains.renew(0, [12], series.points_in, number=3),
                lambda: grains.renew(1, [], series.points_in, number=3),
                lambda: grains.let_go(10, 1000),
                lambda: grains.let_go(11, 1000),
            )
            for deed in deeds:
                try:
                    deed()
                except (NoDeed, NoGrain) as refusal:
                    refusals.append((type(refusal).__name__, getattr(refusal, "at", None)))
                self.assertIs(grains.busy, True)
            return series.points_in(start, end)

        told = grains.renew(0, [12], points_in, number=2)
        self.assertEqual(refusals, [("NoDeed", None), ("NoDeed", None), ("NoDeed", None), ("NoGrain", 11)])
        self.assertEqual([change[:2] for change in told], [(10, 10), (60, 0), (600, 0)])
        self.assertEqual(series.asked, [(10, 20)])
        self.assertIs(grains.right(0, series.told()), True)
        self.assertIs(grains.busy, False)

    def test_whatever_points_in_raises_comes_out(self):
        grains, series = self.filled()
        ahead = self.state(grains)
        series.points.update({0: 9, 12: 9, 61: 9})
        for error in (Refused("x"), KeyError(5), ValueError("y"), NoDeed("z"), KeyboardInterrupt()):
            for good in range(3):
                asked = []

                def points_in(start, end):
                    asked.append((start, end))
                    if len(asked) > good:
                        raise error
                    return series.points_in(start, end)

                with self.assertRaises(type(error)) as caught:
                    grains.renew(0, [61, 12, 0], points_in, number=2)
                self.assertIs(caught.exception, error)
                self.assertEqual(self.state(grains), ahead)
        told = grains.renew(0, [61, 12, 0], series.points_in, number=2)
        self.assertEqual(len(told), 3 + 2 + 1)
        self.assertIs(grains.right(0, series.told()), True)

    def test_a_deed_that_points_in_lets_out(self):
        grains, series = self.filled()
        ahead = self.state(grains)
        for deed in (lambda: grains.let_go(10, 1000), lambda: grains.renew(0, [], series.points_in, number=5)):
            with self.assertRaises(NoDeed):
                grains.renew(0, [12], lambda start, end: deed(), number=2)
            self.assertEqual(self.state(grains), ahead)

    def test_as_the_model(self):
        chance = random.Random(23)
        for widths in ((1,), (3, 6), (2, 10, 20, 60), (5, 5 * 10 ** 9)):
            grains, series = Grains(widths), {place: Series() for place in range(3)}
            since = {}
            for number in range(1, 60):
                place = chance.randrange(3)
                told = series[place]
                times = [chance.randint(-70, 70) for k in range(chance.randint(0, 6))]
                cells = sorted({(width, cell_start(time, width)) for width in widths for time in times})
                ahead = [told.fold(start, start + width) for width, start in cells]
                for time in times:
                    if chance.random() < 0.4:
                        told.points.pop(time, None)
                    elif chance.random() < 0.8:
                        told.points[time] = chance.randint(-5, 5)
                changes = grains.renew(place, times, told.points_in, number=number)
                behind = [told.fold(start, start + width) for width, start in cells]
                expected = []
                for (width, start), old, new in zip(cells, ahead, behind):
                    if old != new:
                        expected.append((width, start, old, new))
                        since[(place, width, start)] = number
                self.assertEqual(changes, expected)
                for other in range(3):
                    self.assertIs(grains.right(other, series[other].told()), True)
            for place in range(3):
                for width in widths:
                    for time in range(-80, 80):
                        start = cell_start(time, width)
                        self.assertEqual(grains.since_at(place, width, time), since.get((place, width, start), 0))
                        self.assertTrue(grains.fold_at(place, width, time) == series[place].fold(start, start + width))
                    full = sorted({cell_start(time, width) for time in series[place].points})
                    self.assertEqual(grains.cells_of(place, width), full)


class LetGo(Case):
    def test_at_beside_and_between_the_ends_of_cells(self):
        for time, gone in ((-1, 0), (0, 1), (1, 1), (9, 1), (10, 2), (19, 2), (20, 3), (69, 3), (70, 4), (9999, 5)):
            grains, series = self.filled()
            self.assertEqual(grains.let_go(10, time), gone, time)
            self.assertEqual(grains.cells_of(0, 10), [-10, 0, 10, 60, 700][gone:])
            self.assertEqual(grains.cells_of(0, 60), [-60, 0, 60, 660])
            self.assertEqual(grains.let_go(time=time, width=10), 0)
            self.assertIs(grains.right(0, series.told()), True)

    def test_folds_and_sinces_are_gone_also_without_points(self):
        grains, series = self.filled()
        del series.points[12]
        grains.renew(0, [12], series.points_in, number=2)
        self.assertEqual(grains.since_at(0, 10, 12), 2)
        # The cell without points isn't counted.
        self.assertEqual(grains.let_go(10, 20), 2)
        for time in (-1, 0, 5, 12):
            self.assertTrue(grains.fold_at(0, 10, time) == Fold())
            self.assertEqual(grains.since_at(0, 10, time), 0)
        told = [grains.since_at(0, width, time) for width, time in ((10, 61), (60, 12), (600, 0))]
        self.assertEqual(told, [1, 2, 2])
        self.assertTrue(grains.fold_at(0, 60, 5) == fold_of([(0, 1), (5, 2)]))

    def test_of_a_single_width(self):
        grains, series = self.filled((10,))
        self.assertEqual([grains.let_go(10, time) for time in (20, 20, 9999)], [3, 0, 2])
        self.assertEqual(grains.cells_of(0, 10), [])

    def test_of_all_series(self):
        grains, series = self.filled()
        other = Series({0: 1, 33: 2, 777: 3})
        grains.renew(8, [0, 33, 777], other.points_in, number=2)
        self.assertEqual(grains.let_go(10, 40), 3 + 2)
        self.assertEqual([grains.cells_of(0, 10), grains.cells_of(8, 10)], [[60, 700], [770]])
        self.assertEqual(grains.let_go(600, 600), 2 + 1)
        self.assertEqual([grains.cells_of(0, 600), grains.cells_of(8, 600)], [[600], [600]])
        self.assertTrue(grains.right(0, series.told()) and grains.right(8, other.told()))

    def test_for_later_series_too(self):
        grains = Grains((10, 60))
        self.assertEqual(grains.let_go(10, 45), 0)
        late = Series({5: 1, 39: 2, 61: 3})
        grains.renew(2, [61], late.points_in, number=1)
        self.assertEqual([grains.since_at(2, 10, 5), grains.since_at(2, 10, 39)], [0, 0])
        self.assertIs(grains.right(2, [(61, 3)]), True)
        # Cells of 10 up to 40 were let go, those of 60 weren't.
        self.assertIs(grains.right(2, late.told()), False)
        self.assertEqual(grains.let_go(60, 60), 0)
        self.assertIs(grains.right(2, late.told()), True)
        self.assertIs(grains.right(2, [(5, 8), (61, 3)]), True)
        self.assertIs(grains.right(2, [(61, 4)]), False)
        self.assertIs(grains.right(7, [(39, 4), (59, 4)]), False)
        self.assertIs(grains.right(7, [(39, 4)]), True)

    def test_twice_and_by_lesser_times(self):
        grains, series = self.filled()
        self.assertEqual(grains.let_go(10, 20), 3)
        self.assertEqual([grains.let_go(10, time) for time in (20, 10, 0, -500)], [0, 0, 0, 0])
        self.assertIs(grains.right(0, [(12, 99), (61, 4), (700, 5)]), False)
        self.assertIs(grains.right(0, series.told()), True)
        self.assertEqual([grains.let_go(10, time) for time in (60, 69, 70, 71, 700, 710)], [0, 0, 1, 0, 0, 1])

    def test_renewed_behind_it(self):
        grains, series = self.filled((10, 60), {5: 1, 65: 2, 125: 3})
        self.assertEqual(grains.let_go(10, 60), 1)
        self.assertEqual(grains.let_go(60, 60), 1)
        series.points.update({65: 8, 70: 9})
        told = grains.renew(0, [65, 70], series.points_in, number=2)
        self.assertEqual([change[:2] for change in told], [(10, 60), (10, 70), (60, 60)])
        self.assertIs(grains.right(0, series.told()), True)


class Right(Case):
    def test_of_the_right_points_and_of_others_by_one(self):
        grains, series = self.filled()
        points = series.told()
        self.assertIs(grains.right(points=points, place=0), True)
        self.assertIs(grains.right(0, tuple(points)), True)
        for at, (time, worth) in enumerate(points):
            self.assertIs(grains.right(0, points[:at] + points[at + 1:]), False)
            self.assertIs(grains.right(0, points[:at] + [(time, worth + 1)] + points[at + 1:]), False)
            if time + 1 not in series.points:
                self.assertIs(grains.right(0, points[:at] + [(time + 1, worth)] + points[at + 1:]), False)
        for time in (-601, -2, 30, 300, 5000):
            self.assertIs(grains.right(0, sorted(points + [(time, 0)])), False)
        self.assertIs(grains.right(0, []), False)
        self.assertEqual(points, series.told())

    def test_of_each_width(self):
        grains, series = self.filled()
        wrong = [(time, worth + (time == 12)) for time, worth in series.told()]
        self.assertIs(grains.right(0, wrong), False)
        grains.let_go(10, 20)
        self.assertIs(grains.right(0, wrong), False)
        grains.let_go(60, 60)
        self.assertIs(grains.right(0, wrong), False)
        grains.let_go(600, 600)
        self.assertIs(grains.right(0, wrong), True)


class Wide(Case):
    def test_very_wide_cells_take_no_longer(self):
        grains = Grains((1, 10 ** 5, 10 ** 10, 10 ** 14))
        series = Series({-GREAT: 1, -5: 2, 0: 3, 99999: 4, 10 ** 12: 5, GREAT: 6})
        told = grains.renew(0, list(series.points), series.points_in, number=1)
        self.assertEqual(len(told), 6 + 5 + 5 + 4)
        self.assertIs(grains.right(0, series.told()), True)
        self.assertEqual(grains.cells_of(0, 10 ** 14), [-10 ** 15, -10 ** 14, 0, 9 * 10 ** 14])
        self.assertEqual(grains.let_go(1, GREAT), 5)
        self.assertEqual(grains.let_go(10 ** 14, GREAT), 3)
        self.assertIs(grains.right(0, series.told()), True)

    def test_many_points(self):
        series = Series({60 * time: time % 17 for time in range(2000)})
        grains = Grains((60, 3600, 86400))
        grains.renew(0, list(series.points), series.points_in, number=1)
        self.assertIs(grains.right(0, series.told()), True)


if __name__ == "__main__":
    unittest.main()
