import itertools
import unittest

from timegranary.times import cell_of, cells, joined, less, met, tidy

GREAT = 10 ** 15 - 1


def times_of(stretches):
    return {time for start, end in stretches for time in range(start, end)}


def tidy_of(times):
    """The plain model: the tidy list of a set of times."""
    starts = sorted(time for time in times if time - 1 not in times)
    ends = sorted(time + 1 for time in times if time + 1 not in times)
    return list(zip(starts, ends))


def all_tidy(low, high):
    """Every tidy list with times from low up to high."""
    for flags in itertools.product((False, True), repeat=high - low):
        yield tidy_of({low + place for place, flag in enumerate(flags) if flag})


class CellOf(unittest.TestCase):
    def test_on_a_start_and_beside_it(self):
        self.assertEqual([cell_of(time, 60) for time in (0, 1, 59, 60, 61, 119, 120)], [0, 0, 0, 60, 60, 60, 120])

    def test_below_0(self):
        self.assertEqual([cell_of(time, 60) for time in (-1, -59, -60, -61, -120)], [-60, -60, -60, -120, -120])

    def test_width_1(self):
        self.assertEqual([cell_of(time, 1) for time in (-2, -1, 0, 1, GREAT)], [-2, -1, 0, 1, GREAT])

    def test_great_times_and_widths(self):
        self.assertEqual([cell_of(time, GREAT) for time in (0, 1, GREAT - 1, GREAT)], [0, 0, 0, GREAT])
        self.assertEqual([cell_of(time, GREAT) for time in (-1, -GREAT)], [-GREAT, -GREAT])
        self.assertEqual(cell_of(-GREAT, 60), -GREAT - 21)

    def test_the_greatest_multiple_not_above(self):
        for time, width in itertools.product(range(-30, 31), range(1, 13)):
            multiples = [width * times for times in range(-31, 31) if width * times <= time]
            self.assertEqual(cell_of(time, width), max(multiples), (time, width))

    def test_by_names(self):
        self.assertEqual(cell_of(width=7, time=-1), -7)
        self.assertIs(type(cell_of(5, 3)), int)


class Cells(unittest.TestCase):
    def test_ending_at_a_cells_end_and_one_off(self):
        self.assertEqual(cells(0, 180, 60), [0, 60, 120])
        self.assertEqual(cells(0, 179, 60), [0, 60])
        self.assertEqual(cells(0, 181, 60), [0, 60, 120])

    def test_beginning_at_a_cells_start_and_one_off(self):
        self.assertEqual(cells(1, 180, 60), [60, 120])
        self.assertEqual(cells(-1, 180, 60), [0, 60, 120])
        self.assertEqual(cells(-60, 60, 60), [-60, 0])
        self.assertEqual(cells(-61, 59, 60), [-60])

    def test_shorter_than_a_cell(self):
        self.assertEqual(cells(0, 59, 60), [])
        self.assertEqual(cells(30, 89, 60), [])
        self.assertEqual(cells(30, 119, 60), [])
        self.assertEqual(cells(-1, 1, GREAT), [])

    def test_without_a_time(self):
        for start, end in ((0, 0), (60, 60), (60, 0), (120, -120), (1, 0), (-60, -60)):
            self.assertEqual(cells(start, end, 60), [], (start, end))
            self.assertEqual(cells(start, end, 1), [], (start, end))

    def test_width_1_and_great_widths(self):
        self.assertEqual(cells(-2, 3, 1), [-2, -1, 0, 1, 2])
        self.assertEqual(cells(-GREAT, GREAT, GREAT), [-GREAT, 0])
        self.assertEqual(cells(1 - GREAT, GREAT, GREAT), [0])

    def test_just_the_cells_wholly_within(self):
        for start, end, width in itertools.product(range(-11, 12), range(-11, 12), range(1, 7)):
            wholly = [cell for cell in range(-20, 20) if cell % width == 0 and start <= cell and cell + width <= end]
            self.assertEqual(cells(start, end, width), wholly, (start, end, width))

    def test_by_names_and_a_new_list_each_time(self):
        told = cells(width=2, end=5, start=0)
        self.assertIs(type(told), list)
        told.clear()
        self.assertEqual(cells(0, 5, 2), [0, 2])


class Tidy(unittest.TestCase):
    def test_of_none(self):
        self.assertEqual(tidy([]), [])

    def test_without_a_time(self):
        self.assertEqual(tidy([(3, 3), (5, 2), (0, -1)]), [])
        self.assertEqual(tidy([(3, 3), (1, 2), (9, 0)]), [(1, 2)])

    def test_in_any_order(self):
        apart = [(-9, -7), (-2, 0), (3, 4), (10, 20)]
        for order in itertools.permutations(apart):
            self.assertEqual(tidy(list(order)), apart)

    def test_alike(self):
        self.assertEqual(tidy([(1, 4), (1, 4), (1, 4)]), [(1, 4)])

    def test_touching_and_one_apart(self):
        self.assertEqual(tidy([(4, 6), (1, 4)]), [(1, 6)])
        self.assertEqual(tidy([(5, 6), (1, 4)]), [(1, 4), (5, 6)])

    def test_overlapping(self):
        self.assertEqual(tidy([(3, 6), (1, 4)]), [(1, 6)])

    def test_one_within_another(self):
        self.assertEqual(tidy([(1, 9), (3, 4)]), [(1, 9)])
        self.assertEqual(tidy([(1, 2), (0, 9), (8, 10)]), [(0, 10)])
        self.assertEqual(tidy([(1, 9), (1, 4), (5, 9)]), [(1, 9)])

    def test_an_empty_one_joins_nothing(self):
        self.assertEqual(tidy([(1, 3), (3, 3), (4, 5)]), [(1, 3), (4, 5)])
        self.assertEqual(tidy([(1, 3), (4, 3), (4, 5)]), [(1, 3), (4, 5)])

    def test_great_times(self):
        self.assertEqual(tidy([(0, GREAT), (-GREAT, 0)]), [(-GREAT, GREAT)])

    def test_just_their_times(self):
        stretches = list(itertools.product(range(-1, 4), repeat=2))
        for some in itertools.product(stretches, repeat=3):
            self.assertEqual(tidy(list(some)), tidy_of(times_of(some)), some)

    def test_many(self):
        many = [(3 * place, 3 * place + 2) for place in range(2000)]
        self.assertEqual(tidy(many[::-1]), many)

    def test_by_name_and_nothing_changed(self):
        handed = [(5, 6), (1, 3), (2, 4), (7, 7)]
        told = tidy(stretches=handed)
        self.assertEqual(told, [(1, 4), (5, 6)])
        self.assertEqual([type(thing) for thing in (told, told[0])], [list, tuple])
        self.assertEqual(handed, [(5, 6), (1, 3), (2, 4), (7, 7)])
        told.clear()
        self.assertEqual(tidy(handed), [(1, 4), (5, 6)])

    def test_of_a_tidy_list_a_new_one(self):
        handed = [(1, 2), (4, 5)]
        told = tidy(handed)
        handed.append((7, 8))
        self.assertEqual(told, [(1, 2), (4, 5)])


class TwoTidyLists(unittest.TestCase):
    ONE = [(-5, -2), (0, 4), (6, 9)]
    TWO = [(-3, 1), (4, 6), (7, 8), (20, 30)]

    def test_ordinary_ones(self):
        self.assertEqual(joined(self.ONE, self.TWO), [(-5, 9), (20, 30)])
        self.assertEqual(met(self.ONE, self.TWO), [(-3, -2), (0, 1), (7, 8)])
        self.assertEqual(less(self.ONE, self.TWO), [(-5, -3), (1, 4), (6, 7), (8, 9)])
        self.assertEqual(less(self.TWO, self.ONE), [(-2, 0), (4, 6), (20, 30)])

    def test_one_or_both_of_none(self):
        some = [(1, 3), (5, 6)]
        self.assertEqual([joined([], some), joined(some, []), joined([], [])], [some, some, []])
        self.assertEqual([met([], some), met(some, []), met([], [])], [[], [], []])
        self.assertEqual([less([], some), less(some, []), less([], [])], [[], some, []])

    def test_the_same_one_twice(self):
        some = [(1, 3), (5, 6)]
        self.assertEqual([joined(some, some), met(some, some), less(some, some)], [some, some, []])

    def test_great_times(self):
        self.assertEqual(joined([(-GREAT, 0)], [(0, GREAT)]), [(-GREAT, GREAT)])
        self.assertEqual(met([(-GREAT, 1)], [(0, GREAT)]), [(0, 1)])
        self.assertEqual(less([(-GREAT, GREAT)], [(0, 1)]), [(-GREAT, 0), (1, GREAT)])

    def test_just_the_told_times(self):
        for one, two in itertools.product(all_tidy(-2, 4), repeat=2):
            self.assertEqual(joined(one, two), tidy_of(times_of(one) | times_of(two)), (one, two))
            self.assertEqual(met(one, two), tidy_of(times_of(one) & times_of(two)), (one, two))
            self.assertEqual(less(one, two), tidy_of(times_of(one) - times_of(two)), (one, two))

    def test_by_names(self):
        self.assertEqual(joined(two=[(3, 4)], one=[(1, 3)]), [(1, 4)])
        self.assertEqual(met(two=[(2, 4)], one=[(1, 3)]), [(2, 3)])
        self.assertEqual(less(two=[(2, 4)], one=[(1, 3)]), [(1, 2)])

    def test_nothing_is_changed_and_told_lists_are_new(self):
        for told_by in (joined, met, less):
            for one, two in ((self.ONE, self.TWO), (self.ONE, []), ([], self.TWO), ([], []), (self.ONE, self.ONE)):
                left, right = list(one), list(two)
                told = told_by(left, right)
                again = told_by(left, right)
                self.assertEqual((left, right), (one, two))
                self.assertEqual(told, again)
                self.assertEqual([type(thing) for thing in told], [tuple] * len(told))
                told.append((100, 200))
                left.append((300, 400))
                right.append((300, 400))
                self.assertEqual(told_by(one, two), again)


if __name__ == "__main__":
    unittest.main()
