import fractions
import itertools
import random
import unittest

from timegranary.errors import NoOrder, NoWhat
from timegranary.folds import WHATS, Fold, asked, beside, fold_of, together
from timegranary.labels import Labels

GREAT = 10 ** 15 - 1
FIELDS = ("count", "total", "squares", "least", "greatest", "first", "last", "rise", "held")
EMPTY = {
    "count": 0, "total": 0, "squares": 0, "least": None, "greatest": None, "first": None, "last": None, "rise": 0,
    "held": 0,
}


def fields(fold):
    return {name: getattr(fold, name) for name in FIELDS}


def model(points):
    """The plain model: the fields of the fold of points, one after the other."""
    told = dict(EMPTY)
    for time, worth in points:
        if told["count"] == 0:
            told.update(least=worth, greatest=worth, first=(time, worth))
        else:
            elder_time, elder = told["last"]
            step = worth - elder
            if step < 0:
                step = worth if worth > 0 else 0
            told["rise"] += step
            told["held"] += elder * (time - elder_time)
        told["count"] += 1
        told["total"] += worth
        told["squares"] += worth ** 2
        told["least"] = worth if worth < told["least"] else told["least"]
        told["greatest"] = worth if worth > told["greatest"] else told["greatest"]
        told["last"] = (time, worth)
    return told


def model_asked(points, what):
    """What is asked of points with rising times, as a Fraction or None."""
    worths = [worth for time, worth in points]
    told = model(points)
    if what in ("count", "rise", "held"):
        return fractions.Fraction(told[what])
    if what == "sum":
        return fractions.Fraction(sum(worths))
    if not worths:
        return None
    mean = fractions.Fraction(sum(worths), len(worths))
    mean_square = fractions.Fraction(sum([worth ** 2 for worth in worths]), len(worths))
    return {
        "least": fractions.Fraction(min(worths)), "greatest": fractions.Fraction(max(worths)),
        "first": fractions.Fraction(worths[0]), "last": fractions.Fraction(worths[-1]),
        "mean": mean, "spread": mean_square - mean ** 2,
    }[what]


def pair(number):
    return None if number is None else (number.numerator, number.denominator)


def some_points(chance, many, worths=9):
    times = sorted(chance.sample(range(-3 * many - 3, 3 * many + 3), many))
    return [(time, chance.randint(-worths, worths)) for time in times]


class FoldOf(unittest.TestCase):
    def test_of_no_point(self):
        for fold in (fold_of([]), Fold(), fold_of(points=())):
            self.assertEqual(fields(fold), EMPTY)

    def test_of_one_point(self):
        for time, worth in ((0, 0), (5, 7), (-5, -7), (GREAT, GREAT), (-GREAT, -GREAT), (0, -1)):
            self.assertEqual(fields(fold_of([(time, worth)])), {
                "count": 1, "total": worth, "squares": worth * worth, "least": worth, "greatest": worth,
                "first": (time, worth), "last": (time, worth), "rise": 0, "held": 0,
            })

    def test_the_one_that_the_document_tells(self):
        fold = fold_of([(0, 2), (4, 3)])
        self.assertEqual(list(fields(fold).values()), [2, 5, 13, 2, 3, (0, 2), (4, 3), 1, 8])

    def test_rising_falling_and_alike(self):
        self.assertEqual(fold_of([(0, 1), (1, 3), (2, 7)]).rise, 6)
        self.assertEqual(fold_of([(0, 7), (1, 3), (2, 1)]).rise, 4)
        self.assertEqual(fold_of([(0, 4), (1, 4), (2, 4)]).rise, 0)
        self.assertEqual(fold_of([(0, -4), (1, -4), (2, -1)]).rise, 3)

    def test_a_counter_that_began_anew(self):
        self.assertEqual(fold_of([(0, 9), (1, 2)]).rise, 2)
        self.assertEqual(fold_of([(0, 9), (1, 0)]).rise, 0)
        self.assertEqual(fold_of([(0, 9), (1, -3)]).rise, 0)
        self.assertEqual(fold_of([(0, 0), (1, -3)]).rise, 0)
        self.assertEqual(fold_of([(0, -1), (1, -3)]).rise, 0)
        self.assertEqual(fold_of([(0, 9), (1, 8)]).rise, 8)
        self.assertEqual(fold_of([(0, 9), (1, 1), (2, -1), (3, 4)]).rise, 1 + 0 + 5)

    def test_held_over_small_and_great_gaps(self):
        self.assertEqual(fold_of([(0, 3), (1, 100)]).held, 3)
        self.assertEqual(fold_of([(-2, 3), (2, -5), (10, 100)]).held, 12 - 40)
        self.assertEqual(fold_of([(-GREAT, GREAT), (GREAT, 1)]).held, 2 * GREAT * GREAT)
        self.assertEqual(fold_of([(-GREAT, -GREAT), (GREAT, 1)]).held, -2 * GREAT * GREAT)

    def test_fifteen_figures(self):
        points = [(-GREAT, GREAT), (0, -GREAT), (GREAT, GREAT)]
        self.assertEqual(fields(fold_of(points)), model(points))
        self.assertEqual(fold_of(points).squares, 3 * GREAT ** 2)
        self.assertEqual(fold_of(points).rise, 2 * GREAT)

    def test_as_the_model_of_all_small_ones(self):
        for many in range(4):
            for worths in itertools.product(range(-2, 3), repeat=many):
                points = [(time * time - 2, worth) for time, worth in enumerate(worths)]
                self.assertEqual(fields(fold_of(points)), model(points), points)

    def test_as_the_model_of_many(self):
        chance = random.Random(11)
        for many in (5, 40, 2000):
            points = some_points(chance, many, GREAT)
            self.assertEqual(fields(fold_of(points)), model(points))

    def test_nothing_is_changed(self):
        points = [(0, 2), (4, 3)]
        fold = fold_of(points)
        self.assertEqual(points, [(0, 2), (4, 3)])
        points.append((9, 9))
        points[0] = (1, 1)
        self.assertEqual(fields(fold), model([(0, 2), (4, 3)]))

    def refused_at(self, points):
        with self.assertRaises(NoOrder) as caught:
            fold_of(points)
        return caught.exception.at

    def test_a_time_that_comes_again_or_goes_back(self):
        self.assertEqual(self.refused_at([(0, 1), (0, 1)]), 1)
        self.assertEqual(self.refused_at([(0, 1), (-1, 1)]), 1)
        self.assertEqual(self.refused_at([(0, 1), (1, 1), (1, 2), (0, 3)]), 2)
        self.assertEqual(self.refused_at([(0, 1), (2, 1), (1, 2), (2, 3)]), 2)
        self.assertEqual(self.refused_at([(5, 0), (4, 0), (3, 0)]), 1)

    def test_the_first_place_where_it_does(self):
        for place in range(1, 12):
            for time in (place - 1, place - 2, -GREAT):
                points = [(at, 0) for at in range(12)]
                points[place] = (time, 0)
                self.assertEqual(self.refused_at(points), place)


class MadeFolds(unittest.TestCase):
    GIVEN = {
        "count": 2, "total": 5, "squares": 13, "least": 2, "greatest": 3, "first": (0, 2), "last": (4, 3), "rise": 1,
        "held": 8,
    }

    def test_by_fields(self):
        self.assertEqual(fields(Fold(**self.GIVEN)), self.GIVEN)
        for name in FIELDS:
            self.assertEqual(fields(Fold(**{name: self.GIVEN[name]})), {**EMPTY, name: self.GIVEN[name]})

    def test_fields_of_forty_figures(self):
        great = 10 ** 40 - 1
        self.assertEqual(Fold(total=-great, squares=great, count=1).squares, great)
        self.assertEqual(asked(Fold(count=great, total=-great, squares=great), "mean"), (-1, 1))

    def test_by_names_alone(self):
        with self.assertRaises(TypeError):
            Fold(2)

    def test_equal_where_all_fields_are(self):
        self.assertTrue(Fold(**self.GIVEN) == fold_of([(0, 2), (4, 3)]))
        self.assertFalse(Fold(**self.GIVEN) != fold_of([(0, 2), (4, 3)]))
        self.assertTrue(Fold() == fold_of([]))
        for name in FIELDS:
            for other in (EMPTY[name], (7, 7) if name in ("first", "last") else 77):
                if other != self.GIVEN[name]:
                    self.assertFalse(Fold(**self.GIVEN) == Fold(**{**self.GIVEN, name: other}), name)
                    self.assertTrue(Fold(**self.GIVEN) != Fold(**{**self.GIVEN, name: other}), name)

    def test_never_equal_to_another_kind(self):
        things = (
            self.GIVEN, list(self.GIVEN.values()), tuple(self.GIVEN.values()), repr(Fold(**self.GIVEN)), 2, True, None,
            object(), Labels(),
        )
        for thing in things:
            self.assertFalse(Fold(**self.GIVEN) == thing)
            self.assertFalse(thing == Fold(**self.GIVEN))
            self.assertTrue(Fold(**self.GIVEN) != thing)
        for thing in (0, False, None, (), [], {}, "", "Fold()"):
            self.assertFalse(Fold() == thing)

    def test_repr(self):
        self.assertEqual(
            repr(fold_of([(0, 2), (4, 3)])),
            "Fold(count=2, total=5, squares=13, least=2, greatest=3, first=(0, 2), last=(4, 3), rise=1, held=8)",
        )
        self.assertEqual(
            repr(Fold()),
            "Fold(count=0, total=0, squares=0, least=None, greatest=None, first=None, last=None, rise=0, held=0)",
        )
        self.assertEqual(
            repr(fold_of([(-4, -3)])),
            "Fold(count=1, total=-3, squares=9, least=-3, greatest=-3, first=(-4, -3), last=(-4, -3), rise=0, held=0)",
        )


class Together(unittest.TestCase):
    def test_none_or_one_empty(self):
        some = fold_of([(1, 2), (3, -4)])
        self.assertTrue(together(Fold(), Fold()) == Fold())
        self.assertTrue(together(some, Fold()) == fold_of([(1, 2), (3, -4)]))
        self.assertTrue(together(Fold(), some) == fold_of([(1, 2), (3, -4)]))

    def test_two_of_points(self):
        self.assertTrue(together(fold_of([(0, 2)]), fold_of([(4, 3)])) == fold_of([(0, 2), (4, 3)]))
        self.assertTrue(together(fold_of([(0, 9)]), fold_of([(1, 3)])) == fold_of([(0, 9), (1, 3)]))
        self.assertTrue(together(two=fold_of([(1, 3)]), one=fold_of([(0, 9)])) == fold_of([(0, 9), (1, 3)]))
        low, high = fold_of([(-GREAT, GREAT)]), fold_of([(GREAT, -GREAT)])
        self.assertTrue(together(low, high) == fold_of([(-GREAT, GREAT), (GREAT, -GREAT)]))

    def test_parted_anywhere(self):
        chance = random.Random(12)
        for round_ in range(40):
            points = some_points(chance, chance.randint(0, 12))
            for place in range(len(points) + 1):
                told = together(fold_of(points[:place]), fold_of(points[place:]))
                self.assertEqual(fields(told), model(points))

    def test_three_either_way(self):
        one, two, three = fold_of([(0, 5), (2, 1)]), fold_of([(3, -2)]), fold_of([(9, 4), (10, 3)])
        self.assertTrue(together(together(one, two), three) == together(one, together(two, three)))

    def test_refused_where_the_second_does_not_lie_behind(self):
        pairs = (
            ([(5, 1)], [(5, 1)]), ([(5, 1)], [(4, 1)]), ([(0, 1), (5, 1)], [(5, 2), (9, 1)]),
            ([(0, 1), (5, 1)], [(3, 2), (9, 1)]), ([(0, 1), (5, 1)], [(-9, 2), (-8, 1)]),
        )
        for one, two in pairs:
            with self.assertRaises(NoOrder) as caught:
                together(fold_of(one), fold_of(two))
            self.assertEqual(caught.exception.at, 0)

    def test_nothing_is_changed(self):
        one, two = fold_of([(0, 5), (2, 1)]), fold_of([(3, -2)])
        ahead = fields(one), fields(two)
        self.assertTrue(together(one, two) == together(one, two))
        together(one, Fold())
        self.assertEqual((fields(one), fields(two)), ahead)


class Beside(unittest.TestCase):
    def test_two_folds(self):
        one, two = fold_of([(0, 2), (4, 3)]), fold_of([(0, 9), (1, -1), (2, 1)])
        self.assertEqual(fields(beside(one, two)), {
            "count": 5, "total": 14, "squares": 96, "least": -1, "greatest": 9, "first": None, "last": None,
            "rise": 1 + 2, "held": 8 + 9 - 1,
        })
        self.assertTrue(beside(two=two, one=one) == beside(two, one))

    def test_least_and_greatest_of_either(self):
        low, high = fold_of([(0, -5), (1, -3)]), fold_of([(0, 4), (1, 8)])
        for told in (beside(low, high), beside(high, low)):
            self.assertEqual((told.least, told.greatest), (-5, 8))
        within = beside(fold_of([(0, -9), (1, 9)]), low)
        self.assertEqual((within.least, within.greatest), (-9, 9))
        nought = beside(fold_of([(0, 0)]), high)
        self.assertEqual((nought.least, nought.greatest), (0, 8))

    def test_beside_the_empty_one(self):
        one = fold_of([(0, 2), (4, 3)])
        for told in (beside(one, Fold()), beside(Fold(), one)):
            self.assertEqual(fields(told), {**fields(one), "first": None, "last": None})

    def test_two_empty_ones(self):
        self.assertTrue(beside(Fold(), Fold()) == Fold())

    def test_of_what_it_told(self):
        one, two, three = fold_of([(0, 2)]), fold_of([(0, 7)]), fold_of([(0, -1)])
        self.assertTrue(beside(beside(one, two), three) == beside(one, beside(two, three)))
        self.assertEqual(beside(beside(one, two), Fold()).greatest, 7)

    def test_nothing_is_changed(self):
        one, two = fold_of([(0, 2), (4, 3)]), fold_of([(0, 9)])
        ahead = fields(one), fields(two)
        beside(one, two)
        self.assertEqual((fields(one), fields(two)), ahead)


class Asked(unittest.TestCase):
    def test_the_words(self):
        self.assertEqual(
            WHATS, ("count", "sum", "least", "greatest", "first", "last", "mean", "spread", "rise", "held"),
        )
        self.assertIs(type(WHATS), tuple)

    def test_each_word(self):
        fold = fold_of([(0, 2), (4, 3)])
        told = [asked(fold, what) for what in WHATS]
        self.assertEqual(told, [
            (2, 1), (5, 1), (2, 1), (3, 1), (2, 1), (3, 1), (5, 2), (1, 4), (1, 1), (8, 1),
        ])
        for number in told:
            self.assertEqual([type(number)] + [type(part) for part in number], [tuple, int, int])
        self.assertEqual(asked(what="mean", fold=fold), (5, 2))

    def test_of_the_empty_fold(self):
        for fold in (Fold(), beside(Fold(), Fold())):
            told = [asked(fold, what) for what in WHATS]
            self.assertEqual(told, [(0, 1), (0, 1), None, None, None, None, None, None, (0, 1), (0, 1)])

    def test_of_what_beside_told(self):
        fold = beside(fold_of([(0, 2), (4, 3)]), fold_of([(0, -1)]))
        told = [asked(fold, what) for what in WHATS]
        self.assertEqual(told, [
            (3, 1), (4, 1), (-1, 1), (3, 1), None, None, (4, 3), (26, 9), (1, 1), (8, 1),
        ])

    def test_totals_below_0_and_of_0(self):
        below = fold_of([(0, -4), (1, -2)])
        self.assertEqual([asked(below, what) for what in ("sum", "mean", "spread")], [(-6, 1), (-3, 1), (1, 1)])
        below = fold_of([(0, -4), (1, -1), (2, 0)])
        self.assertEqual([asked(below, what) for what in ("sum", "mean")], [(-5, 1), (-5, 3)])
        nought = fold_of([(0, -4), (1, 4), (2, 0)])
        self.assertEqual([asked(nought, what) for what in ("sum", "mean", "spread")], [(0, 1), (0, 1), (32, 3)])
        alike = fold_of([(0, 7), (1, 7), (2, 7)])
        self.assertEqual([asked(alike, what) for what in ("mean", "spread")], [(7, 1), (0, 1)])
        noughts = fold_of([(0, 0), (1, 0)])
        self.assertEqual([asked(noughts, what) for what in WHATS[1:]], [(0, 1)] * 9)

    def test_in_lowest_terms_as_the_model(self):
        chance = random.Random(13)
        for worths in (3, 9, GREAT):
            for round_ in range(60):
                points = some_points(chance, chance.randint(0, 12), worths)
                for what in WHATS:
                    self.assertEqual(asked(fold_of(points), what), pair(model_asked(points, what)), (points, what))

    def test_another_word(self):
        for fold in (Fold(), fold_of([(0, 1)])):
            for word in ("", "Count", "counts", "total", "squares", "coun", "sum ", "median", "count sum"):
                with self.assertRaises(NoWhat) as caught:
                    asked(fold, word)
                self.assertIs(caught.exception.at, word)

    def test_nothing_is_changed(self):
        fold = fold_of([(0, 2), (4, 3)])
        ahead = fields(fold)
        for what in WHATS:
            self.assertEqual(asked(fold, what), asked(fold, what))
        self.assertEqual(fields(fold), ahead)


if __name__ == "__main__":
    unittest.main()
