import itertools
import random
import unittest

from timegranary.rows import changes, known, needless, poured, thinned

GREAT = 10 ** 15 - 1
# Several numbers at one time, a time whose last row has no worth, one that has none but such.
ROWS = [
    (-5, 2, 7), (-5, 4, None), (-5, 6, 0),
    (0, 1, 3), (0, 3, -3),
    (4, 2, 1), (4, 5, None),
    (9, 3, None),
    (GREAT, 6, -GREAT),
]


def model_known(rows, number):
    """Of each time the row with the greatest number that isn't above, where it has a worth."""
    points = []
    for time in sorted({row[0] for row in rows}):
        told = [row for row in rows if row[0] == time and row[1] <= number]
        if told and max(told, key=lambda row: row[1])[2] is not None:
            points.append((time, max(told, key=lambda row: row[1])[2]))
    return points


def model_needless(rows, number):
    out = []
    for time, own, worth in rows:
        later = [row for row in rows if row[0] == time and own < row[1] <= number]
        if later or (own <= number and worth is None):
            out.append((time, own, worth))
    return out


def some_rows(chance, many):
    keys = sorted(chance.sample(list(itertools.product(range(-3, 6), range(1, 8))), many))
    return [(time, number, chance.choice((None, None, -1, 0, 1, 2))) for time, number in keys]


class Known(unittest.TestCase):
    def test_below_at_and_above_the_numbers(self):
        self.assertEqual(known(ROWS, -1), [])
        self.assertEqual(known(ROWS, 0), [])
        self.assertEqual(known(ROWS, 1), [(0, 3)])
        self.assertEqual(known(ROWS, 2), [(-5, 7), (0, 3), (4, 1)])
        self.assertEqual(known(ROWS, 3), [(-5, 7), (0, -3), (4, 1)])
        self.assertEqual(known(ROWS, 4), [(0, -3), (4, 1)])
        self.assertEqual(known(ROWS, 5), [(0, -3)])
        self.assertEqual(known(ROWS, 6), [(-5, 0), (0, -3), (GREAT, -GREAT)])
        self.assertEqual(known(ROWS, GREAT), [(-5, 0), (0, -3), (GREAT, -GREAT)])

    def test_of_none_and_of_one(self):
        self.assertEqual(known([], 5), [])
        self.assertEqual([known([(1, 3, 0)], number) for number in (2, 3, 4)], [[], [(1, 0)], [(1, 0)]])
        self.assertEqual([known([(1, 3, None)], number) for number in (2, 3, 4)], [[], [], []])

    def test_as_the_model(self):
        chance = random.Random(17)
        for round_ in range(60):
            rows = some_rows(chance, chance.randint(0, 25))
            for number in range(9):
                self.assertEqual(known(number=number, rows=rows), model_known(rows, number))

    def test_new_and_nothing_changed(self):
        rows = list(ROWS)
        told = known(rows, 6)
        self.assertEqual([type(told), type(told[0])], [list, tuple])
        told.clear()
        self.assertEqual(len(known(rows, 6)), 3)
        self.assertEqual(rows, ROWS)


class Changes(unittest.TestCase):
    def test_in_both_directions(self):
        self.assertEqual(changes(ROWS, 2, 4), [(-5, 7, None), (0, 3, -3)])
        self.assertEqual(changes(ROWS, 4, 2), [(-5, None, 7), (0, -3, 3)])
        self.assertEqual(changes(ROWS, 0, 6), [(-5, None, 0), (0, None, -3), (GREAT, None, -GREAT)])
        self.assertEqual(changes(two=0, one=6, rows=ROWS), [(-5, 0, None), (0, -3, None), (GREAT, -GREAT, None)])

    def test_of_like_numbers_and_of_none(self):
        for number in range(-1, 8):
            self.assertEqual(changes(ROWS, number, number), [])
        self.assertEqual(changes([], 0, 5), [])

    def test_what_came_back_is_no_change(self):
        rows = [(0, 1, 5), (0, 2, None), (0, 3, 5), (1, 2, 0), (1, 3, None)]
        self.assertEqual(changes(rows, 1, 3), [])
        self.assertEqual(changes(rows, 1, 2), [(0, 5, None), (1, None, 0)])
        self.assertEqual(changes(rows, 2, 3), [(0, None, 5), (1, 0, None)])

    def test_as_the_model(self):
        chance = random.Random(18)
        for round_ in range(40):
            rows = some_rows(chance, chance.randint(0, 25))
            for one, two in itertools.product(range(9), repeat=2):
                ahead, behind = dict(model_known(rows, one)), dict(model_known(rows, two))
                told = [
                    (time, ahead.get(time), behind.get(time)) for time in range(-3, 6)
                    if ahead.get(time) != behind.get(time)
                ]
                self.assertEqual(changes(rows, one, two), told)

    def test_new_and_nothing_changed(self):
        rows = list(ROWS)
        told = changes(rows, 0, 6)
        self.assertEqual([type(told), type(told[0])], [list, tuple])
        told.clear()
        self.assertEqual(len(changes(rows, 0, 6)), 3)
        self.assertEqual(rows, ROWS)


class Thinning(unittest.TestCase):
    def test_needless(self):
        self.assertEqual(needless(ROWS, 0), [])
        self.assertEqual(needless(ROWS, 1), [])
        self.assertEqual(needless(ROWS, 3), [(0, 1, 3), (9, 3, None)])
        self.assertEqual(needless(ROWS, 4), [(-5, 2, 7), (-5, 4, None), (0, 1, 3), (9, 3, None)])
        told = [(-5, 2, 7), (-5, 4, None), (0, 1, 3), (4, 2, 1), (4, 5, None), (9, 3, None)]
        self.assertEqual(needless(number=6, rows=ROWS), told)
        self.assertEqual(needless(ROWS, GREAT), told)

    def test_thinned(self):
        self.assertEqual(thinned(ROWS, 0), ROWS)
        self.assertEqual(thinned(number=6, rows=ROWS), [(-5, 6, 0), (0, 3, -3), (GREAT, 6, -GREAT)])
        self.assertEqual([thinned([], 5), needless([], 5)], [[], []])

    def test_a_row_without_a_worth_below_a_later_one(self):
        rows = [(0, 1, 5), (0, 3, None), (0, 5, 6)]
        self.assertEqual(needless(rows, 3), [(0, 1, 5), (0, 3, None)])
        self.assertEqual(thinned(rows, 3), [(0, 5, 6)])
        self.assertEqual(needless(rows, 2), [])

    def test_as_the_model_and_nothing_known_later_changes(self):
        chance = random.Random(19)
        for round_ in range(60):
            rows = some_rows(chance, chance.randint(0, 25))
            for number in range(9):
                gone, left = needless(rows, number), thinned(rows, number)
                self.assertEqual(gone, model_needless(rows, number))
                self.assertEqual(sorted(gone + left, key=lambda row: row[:2]), rows)
                self.assertEqual(left, [row for row in rows if row not in gone])
                for later in range(number, 9):
                    self.assertEqual(known(left, later), known(rows, later))
                self.assertEqual(needless(left, number), [])

    def test_new_and_nothing_changed(self):
        rows = list(ROWS)
        for told_by in (needless, thinned):
            for number in (0, 6):
                told = told_by(rows, number)
                again = told_by(rows, number)
                told.append(1)
                self.assertEqual(told_by(rows, number), again)
                self.assertEqual(rows, ROWS)


class Poured(unittest.TestCase):
    def test_without_rows_in_common(self):
        one, two = ROWS[::2], ROWS[1::2]
        self.assertEqual(poured(one, two), ROWS)
        self.assertEqual(poured(two=one, one=two), ROWS)
        self.assertEqual(poured(ROWS[:3], ROWS[3:]), ROWS)
        self.assertEqual(poured(ROWS[3:], ROWS[:3]), ROWS)

    def test_with_rows_in_common(self):
        self.assertEqual(poured(ROWS, ROWS), ROWS)
        self.assertEqual(poured(ROWS[:6], ROWS[2:]), ROWS)
        self.assertEqual(poured([(0, 1, None)], [(0, 1, None)]), [(0, 1, None)])
        self.assertEqual(poured([(0, 1, None), (0, 2, 4)], [(0, 1, None)]), [(0, 1, None), (0, 2, 4)])

    def test_of_none(self):
        self.assertEqual([poured([], []), poured(ROWS, []), poured([], ROWS)], [[], ROWS, ROWS])

    def test_as_the_model(self):
        chance = random.Random(20)
        for round_ in range(60):
            rows = some_rows(chance, chance.randint(0, 25))
            one = [row for row in rows if chance.random() < 0.6]
            two = [row for row in rows if chance.random() < 0.6]
            self.assertEqual(poured(one, two), [row for row in rows if row in one or row in two])

    def test_new_and_nothing_changed(self):
        for one, two in ((ROWS[:6], ROWS[2:]), (ROWS, []), ([], ROWS), ([], [])):
            left, right = list(one), list(two)
            told = poured(left, right)
            again = poured(left, right)
            self.assertEqual((left, right), (one, two))
            told.append((0, 0, 0))
            self.assertEqual(poured(left, right), again)
            left.append((GREAT, 9, 9))
            self.assertEqual(poured(one, two), again)


if __name__ == "__main__":
    unittest.main()
