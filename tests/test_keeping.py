import itertools
import random
import unittest

from timegranary.errors import NoGrain, NoKeep
from timegranary.keeping import Edges, Keeping

GREAT = 10 ** 15 - 1


class MadeKeeping(unittest.TestCase):
    def refused_at(self, refusal, widths, keeps):
        with self.assertRaises(refusal) as caught:
            Keeping(widths, keeps)
        return caught.exception.at

    def test_widths_are_refused_first(self):
        for keeps in ((), (1,), (None, None), (5, 4, 3), (-1, 0), (1, 2, 3, 4, 5, 6)):
            self.assertEqual(self.refused_at(NoGrain, (), keeps), 0)
            self.assertEqual(self.refused_at(NoGrain, (0,), keeps), 0)
            self.assertEqual(self.refused_at(NoGrain, (60, 60), keeps), 1)
            self.assertEqual(self.refused_at(NoGrain, (60, 90), keeps), 1)
            self.assertEqual(self.refused_at(NoGrain, (60, 120, 180), keeps), 2)
            self.assertEqual(self.refused_at(NoGrain, (1, 2, 4, 8, 16), keeps), 4)

    def test_good_keeps(self):
        good = ((0, 0, 0), (5, 5, 5), (0, 60, 3600), (5, None, None), (None, None, None), (1, 2, None), (0, 0, GREAT))
        for keeps in good:
            self.assertEqual(Keeping((60, 3600), keeps).gone_before(), None)
        Keeping(keeps=(1, 2), widths=(60,))
        Keeping((1, 2, 4, 8), (0, 1, 2, 3, None))

    def test_below_0(self):
        self.assertEqual(self.refused_at(NoKeep, (60, 3600), (-1, 0, 0)), 0)
        self.assertEqual(self.refused_at(NoKeep, (60, 3600), (0, -1, 0)), 1)
        self.assertEqual(self.refused_at(NoKeep, (60, 3600), (0, 0, -5)), 2)
        self.assertEqual(self.refused_at(NoKeep, (60, 3600), (-1, -2, -3)), 0)

    def test_less_than_the_one_ahead(self):
        self.assertEqual(self.refused_at(NoKeep, (60, 3600), (5, 4, 9)), 1)
        self.assertEqual(self.refused_at(NoKeep, (60, 3600), (5, 5, 4)), 2)
        self.assertEqual(self.refused_at(NoKeep, (60, 3600), (5, 4, 3)), 1)
        self.assertEqual(self.refused_at(NoKeep, (60, 3600), (5, 9, 8)), 2)

    def test_a_number_behind_none(self):
        self.assertEqual(self.refused_at(NoKeep, (60, 3600), (None, 5, 5)), 1)
        self.assertEqual(self.refused_at(NoKeep, (60, 3600), (5, None, 5)), 2)
        self.assertEqual(self.refused_at(NoKeep, (60, 3600), (None, None, 0)), 2)
        self.assertEqual(self.refused_at(NoKeep, (60, 3600), (None, 5, None)), 1)

    def test_what_is_no_whole_number(self):
        for thing in (True, "5", (), (5,)):
            self.assertEqual(self.refused_at(NoKeep, (60,), (thing, None)), 0)
            self.assertEqual(self.refused_at(NoKeep, (60,), (0, thing)), 1)

    def test_too_many(self):
        self.assertEqual(self.refused_at(NoKeep, (60, 3600), (1, 2, 3, 4)), 3)
        self.assertEqual(self.refused_at(NoKeep, (60, 3600), (1, 2, 3, 4, 5)), 3)
        self.assertEqual(self.refused_at(NoKeep, (60, 3600), (None,) * 4), 3)
        self.assertEqual(self.refused_at(NoKeep, (60, 3600), (None, None, None, 4)), 3)
        self.assertEqual(self.refused_at(NoKeep, (60, 3600), (1, 2, 1, 4)), 2)
        self.assertEqual(self.refused_at(NoKeep, (60,), (1, 2, 0)), 2)

    def test_too_few(self):
        self.assertEqual(self.refused_at(NoKeep, (60, 3600), ()), 0)
        self.assertEqual(self.refused_at(NoKeep, (60, 3600), (1,)), 1)
        self.assertEqual(self.refused_at(NoKeep, (60, 3600), (None, None)), 2)
        # What is wrong stands ahead of what is lacking.
        self.assertEqual(self.refused_at(NoKeep, (60, 3600), (2, 1)), 1)
        self.assertEqual(self.refused_at(NoKeep, (60, 3600), (-1,)), 0)


class Expire(unittest.TestCase):
    def test_at_first(self):
        keeping = Keeping((60, 3600), (0, 0, 0))
        self.assertEqual([keeping.gone_before(width) for width in (None, 60, 3600)], [None] * 3)
        self.assertEqual([keeping.finest(time) for time in (-GREAT, 0, GREAT)], [0] * 3)

    def test_by_growing_nows(self):
        keeping = Keeping((10, 60, 600), (5, 20, 700, None))
        cases = (
            (0, (-10, -60, -1200, None)), (4, (-10, -60, -1200, None)), (5, (0, -60, -1200, None)),
            (19, (10, -60, -1200, None)), (20, (10, 0, -1200, None)), (79, (70, 0, -1200, None)),
            (80, (70, 60, -1200, None)), (99, (90, 60, -1200, None)), (100, (90, 60, -600, None)),
            (699, (690, 660, -600, None)), (700, (690, 660, 0, None)), (1299, (1290, 1260, 0, None)),
            (1300, (1290, 1260, 600, None)),
        )
        for now, horizons in cases:
            told = keeping.expire(now)
            self.assertEqual(told, horizons, now)
            self.assertIs(type(told), tuple)
            self.assertEqual(tuple(keeping.gone_before(width) for width in (None, 10, 60, 600)), horizons)

    def test_the_last_width_goes_by_its_own(self):
        keeping = Keeping((10, 60), (0, 0, 0))
        self.assertEqual(keeping.expire(now=59), (50, 0, 0))
        self.assertEqual(keeping.expire(119), (110, 60, 60))
        one = Keeping((7,), (0, 3))
        self.assertEqual([one.expire(6), one.expire(7), one.expire(10)], [(0, 0), (7, 0), (7, 7)])
        # What is left is -3 at first: a cell below 0.
        self.assertEqual(Keeping((7,), (0, 3)).expire(0), (0, -7))

    def test_none_goes_back(self):
        keeping = Keeping((10, 60), (0, 30, None))
        self.assertEqual(keeping.expire(200), (200, 120, None))
        for now in (199, 100, 0, -GREAT, 200):
            self.assertEqual(keeping.expire(now), (200, 120, None))
        self.assertEqual(keeping.expire(205), (200, 120, None))
        self.assertEqual(keeping.expire(210), (210, 180, None))

    def test_none_keeps_and_stays(self):
        for keeps in ((None, None, None), (5, None, None), (5, 60, None)):
            keeping = Keeping((10, 60), keeps)
            for now in (0, 1000, GREAT):
                told = keeping.expire(now)
                self.assertEqual([horizon is None for horizon in told], [keep is None for keep in keeps])

    def test_a_now_below_0(self):
        keeping = Keeping((10, 60), (5, 30, 30))
        self.assertEqual(keeping.expire(-1), (-10, -60, -60))
        self.assertEqual(Keeping((10, 60), (5, 30, 30)).expire(-56), (-70, -120, -120))
        self.assertEqual(Keeping((10, 60), (0, 0, 0)).expire(-60), (-60, -60, -60))

    def test_great_ones(self):
        keeping = Keeping((1, 1000), (GREAT, GREAT, GREAT))
        self.assertEqual(keeping.expire(GREAT), (0, 0, 0))
        self.assertEqual(Keeping((1, 1000), (GREAT,) * 3).expire(-GREAT), (-2 * GREAT, -2 * 10 ** 15, -2 * 10 ** 15))

    def test_no_horizon_is_above_a_finer_one(self):
        chance = random.Random(24)
        for round_ in range(200):
            widths = [chance.randint(1, 5)]
            while len(widths) < chance.randint(1, 4):
                widths.append(widths[-1] * chance.randint(2, 5))
            keeps = sorted(chance.randint(0, 300) for k in range(chance.randint(0, len(widths) + 1)))
            keeps += [None] * (len(widths) + 1 - len(keeps))
            keeping = Keeping(tuple(widths), tuple(keeps))
            for k in range(5):
                horizons = keeping.expire(chance.randint(-500, 500))
                told = [-10 ** 9 if horizon is None else horizon for horizon in horizons]
                self.assertEqual(told, sorted(told, reverse=True))
                # Within a cell at the points' horizon no cell of the next lesser width is below that width's horizon.
                for at in range(1, len(widths)):
                    if keeps[0] is not None:
                        start = told[0] // widths[at] * widths[at]
                        self.assertGreaterEqual(start, told[at])


class GoneBefore(unittest.TestCase):
    def test_of_none_and_each_width(self):
        keeping = Keeping((10, 60), (0, 30, None))
        keeping.expire(200)
        self.assertEqual((keeping.gone_before(), keeping.gone_before(None)), (200, 200))
        self.assertEqual((keeping.gone_before(10), keeping.gone_before(width=60)), (120, None))

    def test_of_0_and_of_others(self):
        keeping = Keeping((10, 60), (0, 30, None))
        for now in (None, 200):
            if now is not None:
                keeping.expire(now)
            for width in (0, 1, -10, 11, 30, 600):
                with self.assertRaises(NoGrain) as caught:
                    keeping.gone_before(width)
                self.assertEqual(caught.exception.at, width)

    def test_what_was_handed_in_and_told(self):
        widths, keeps = (10, 60), (0, 30, None)
        keeping = Keeping(widths, keeps)
        keeping.expire(200)
        self.assertEqual((widths, keeps), ((10, 60), (0, 30, None)))
        self.assertEqual([keeping.gone_before(10) for k in range(3)], [120] * 3)


class Finest(unittest.TestCase):
    def test_at_below_and_above_each_horizon(self):
        keeping = Keeping((10, 60, 600), (0, 300, 2000, 9000))
        self.assertEqual(keeping.expire(10000), (10000, 9660, 7800, 600))
        cases = {
            GREAT: 0, 10001: 0, 10000: 0, 9999: 10, 9661: 10, 9660: 10, 9659: 60, 7800: 60, 7799: 600, 600: 600,
            599: None, 0: None, -GREAT: None,
        }
        for time, told in cases.items():
            self.assertEqual(keeping.finest(time), told, time)
        self.assertEqual(keeping.finest(time=7799), 600)

    def test_widths_of_which_nothing_is_gone(self):
        keeping = Keeping((10, 60), (0, None, None))
        keeping.expire(100)
        self.assertEqual([keeping.finest(time) for time in (100, 99, -GREAT)], [0, 10, 10])
        keeping = Keeping((10, 60), (0, 0, None))
        keeping.expire(100)
        self.assertEqual([keeping.finest(time) for time in (100, 99, 60, 59, -GREAT)], [0, 10, 10, 60, 60])
        keeping = Keeping((10, 60), (None, None, None))
        keeping.expire(GREAT)
        self.assertEqual([keeping.finest(time) for time in (GREAT, 0, -GREAT)], [0, 0, 0])

    def test_0_as_a_horizon(self):
        keeping = Keeping((10,), (0, 0))
        self.assertEqual(keeping.expire(5), (0, 0))
        self.assertEqual([keeping.finest(time) for time in (0, -1)], [0, None])


class TheEdges(unittest.TestCase):
    POINTS = [(-5, 1), (0, 2), (10, 3), (20, 4)]

    def test_of_no_points(self):
        edges = Edges()
        self.assertIsNone(edges.edge_of(0))
        self.assertIsNone(edges.moved(0, [], 100))
        self.assertIsNone(edges.edge_of(0))

    def test_below_at_and_above_the_horizon(self):
        cases = {
            -6: None, -5: None, -4: (-5, 1), 0: (-5, 1), 1: (0, 2), 10: (0, 2), 11: (10, 3), 20: (10, 3), 21: (20, 4),
        }
        for horizon, told in cases.items():
            edges = Edges()
            self.assertEqual(edges.moved(0, self.POINTS, horizon), told, horizon)
            self.assertEqual(edges.edge_of(0), told)
            self.assertEqual(edges.edge_of(place=1), None)

    def test_a_horizon_of_none_lets_nothing_go(self):
        edges = Edges()
        self.assertIsNone(edges.moved(0, self.POINTS, None))
        edges.moved(0, self.POINTS, 1)
        self.assertEqual(edges.moved(0, self.POINTS, None), (0, 2))

    def test_with_an_edge_kept(self):
        edges = Edges()
        self.assertEqual(edges.moved(place=3, points=self.POINTS, horizon=15), (10, 3))
        # None of the points is below, or what is kept is later.
        self.assertEqual(edges.moved(3, [], 99), (10, 3))
        self.assertEqual(edges.moved(3, [(20, 9), (30, 9)], 20), (10, 3))
        self.assertEqual(edges.moved(3, [(0, 9), (9, 9)], 99), (10, 3))
        self.assertEqual(edges.edge_of(3), (10, 3))
        # A later point takes its place.
        self.assertEqual(edges.moved(3, [(11, 7)], 12), (11, 7))
        self.assertEqual(edges.moved(3, [(12, 8), (40, 9)], 20), (12, 8))
        self.assertEqual(edges.edge_of(3), (12, 8))

    def test_both_at_one_time(self):
        edges = Edges()
        edges.moved(0, [(5, 1)], 10)
        self.assertEqual(edges.moved(0, [(0, 7), (5, 2)], 10), (5, 2))
        self.assertEqual(edges.edge_of(0), (5, 2))
        self.assertEqual(edges.moved(0, [(5, 3)], 5), (5, 2))

    def test_places_by_themselves(self):
        edges = Edges()
        edges.moved(0, [(5, 1)], 10)
        edges.moved(7, [(3, 2)], 10)
        self.assertEqual([edges.edge_of(place) for place in (0, 1, 7, -1)], [(5, 1), None, (3, 2), None])
        self.assertIsNone(edges.moved(1, [(10, 1)], 10))
        self.assertEqual([edges.edge_of(place) for place in (0, 1, 7)], [(5, 1), None, (3, 2)])

    def test_nothing_is_changed(self):
        edges, points = Edges(), list(self.POINTS)
        edges.moved(0, points, 11)
        self.assertEqual(points, self.POINTS)
        points[2] = (10, 99)
        points.clear()
        self.assertEqual(edges.edge_of(0), (10, 3))

    def test_as_the_model(self):
        chance = random.Random(25)
        edges, kept = Edges(), None
        for round_ in range(300):
            times = sorted(chance.sample(range(-20, 60), chance.randint(0, 5)))
            points = [(time, chance.randint(0, 9)) for time in times]
            horizon = chance.randint(-20, 60) if round_ % 20 else -30
            below = [point for point in points if point[0] < horizon]
            if round_ % 40 == 0:
                edges, kept = Edges(), None
            for point in itertools.islice(reversed(below), 1):
                if kept is None or point[0] >= kept[0]:
                    kept = point
            self.assertEqual(edges.moved(0, points, horizon), kept)
            self.assertEqual(edges.edge_of(0), kept)


if __name__ == "__main__":
    unittest.main()
