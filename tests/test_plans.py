"""[23]: plans, what they cost, and papers that show it."""

import random
import unittest

from timegranary.plans import cost_of, is_plan, least_plan, shows_least


def plain_edges(start, end, cells):
    inside = [cell for cell in cells if start <= cell[0] and cell[1] <= end]
    return sorted({start, end, *[time for cell in inside for time in cell]})


def searched_cost(start, end, horizon, cells, points):
    """The least cost over all plans, tried one by one, pieces that begin and end at any time; None without a plan."""
    if start == end:
        return 0
    costs = []
    for behind in range(start + 1, end + 1):
        own = []
        if (start, behind) in cells:
            own.append(1)
        if horizon is None or start >= horizon:
            own.append(len([time for time in points if start <= time < behind]))
        if own:
            rest = searched_cost(behind, end, horizon, cells, points)
            if rest is not None:
                costs.append(min(own) + rest)
    return min(costs, default=None)


def drawn_case(chance, length):
    start = chance.randint(-5, 5)
    end = start + chance.randint(0, length)
    cells = []
    for at in range(chance.randint(0, 6)):
        cell = chance.randint(start - 2, end + 1)
        cells.append((cell, cell + chance.randint(1, 4)))
    cells += chance.sample(cells, min(len(cells), 2))
    points = [chance.randint(start - 2, end + 2) for at in range(chance.randint(0, 10))]
    horizon = chance.choice([None, start - 1, start, end, end + 1, chance.randint(start, end)])
    return start, end, horizon, cells, points


class LeastPlan(unittest.TestCase):
    def told(self, start, end, **named):
        told = least_plan(start, end, **named)
        self.assertIsInstance(told, tuple)
        self.assertTrue(shows_least(told, start, end, **named))
        if told[0] == "plan":
            told_points = named.pop("points", ())
            self.assertTrue(is_plan(told[1], start, end, **named))
            self.assertEqual(cost_of(told[1], told_points), dict(told[2])[end])
        return told

    def test_an_empty_stretch(self):
        self.assertEqual(self.told(5, 5), ("plan", [], [(5, 0)]))
        self.assertEqual(self.told(5, 5, horizon=9, cells=[(5, 6), (4, 5)], points=[5])[1], [])

    def test_without_cells(self):
        self.assertEqual(self.told(0, 10, points=[3, 3, 12])[1], [("points", 0, 10)])
        self.assertEqual(dict(self.told(0, 10, points=[3, 3, 12])[2]), {0: 0, 10: 2})
        self.assertEqual(self.told(0, 10, horizon=1), ("gap", [0]))
        self.assertEqual(self.told(0, 10, horizon=0)[0], "plan")

    def test_cells_are_taken_where_they_cost_less(self):
        told = self.told(0, 12, cells=[(4, 8), (0, 4), (0, 4)], points=[1, 2, 5, 9])
        self.assertEqual(dict(told[2])[12], 3)
        self.assertIn(("cell", 0, 4), told[1])

    def test_a_wide_cell_in_the_place_of_finer_ones(self):
        told = self.told(0, 12, horizon=12, cells=[(0, 4), (4, 8), (8, 12), (0, 12)])
        self.assertEqual(told[1], [("cell", 0, 12)])

    def test_cells_that_stick_out_are_none_of_the_stretch(self):
        self.assertEqual(self.told(0, 12, horizon=12, cells=[(-1, 4), (4, 12)]), ("gap", [0]))
        self.assertEqual(self.told(0, 12, horizon=12, cells=[(0, 4), (4, 13)])[0], "gap")
        self.assertEqual(sorted(self.told(0, 12, horizon=12, cells=[(0, 4), (4, 13)])[1]), [0, 4])

    def test_a_horizon_within(self):
        told = self.told(0, 12, horizon=4, cells=[(0, 4)], points=[5, 1, 1])
        self.assertEqual(told[1], [("cell", 0, 4), ("points", 4, 12)])
        self.assertEqual(self.told(0, 12, horizon=5, cells=[(0, 4)])[0], "gap")
        self.assertEqual(self.told(0, 12, horizon=6, cells=[(0, 8)])[1], [("cell", 0, 8), ("points", 8, 12)])

    def test_horizons_below_and_above(self):
        self.assertEqual(self.told(0, 12, horizon=-3)[0], "plan")
        self.assertEqual(self.told(0, 12, horizon=13, cells=[(0, 12)])[0], "plan")
        self.assertEqual(self.told(0, 12, horizon=12)[0], "gap")

    def test_overlapping_cells(self):
        told = self.told(0, 10, horizon=10, cells=[(0, 6), (3, 8), (6, 10), (0, 3), (8, 10)])
        self.assertEqual(dict(told[2])[10], 2)

    def test_lists_and_tuples_alike(self):
        cells = [(8, 12), (0, 4), (4, 8), (0, 4)]
        points = [9, 1, 1, 5, 2]
        self.assertEqual(
            least_plan(0, 12, cells=tuple(cells), points=tuple(points)), least_plan(0, 12, cells=cells, points=points)
        )
        told = least_plan(0, 12, cells=cells, points=points)
        self.assertTrue(shows_least(told, 0, 12, cells=tuple(cells), points=tuple(points)))
        self.assertTrue(is_plan(told[1], 0, 12, cells=tuple(cells)))
        self.assertEqual(cost_of(told[1], tuple(points)), cost_of(told[1], points))

    def test_nothing_handed_in_is_changed_and_what_is_told_is_the_askers(self):
        cells = [(8, 12), (0, 4), (0, 4)]
        points = [9, 1, 1]
        told = least_plan(0, 12, cells=cells, points=points)
        self.assertEqual((cells, points), ([(8, 12), (0, 4), (0, 4)], [9, 1, 1]))
        again = least_plan(0, 12, cells=cells, points=points)
        told[1].clear()
        told[2].clear()
        self.assertEqual(least_plan(0, 12, cells=cells, points=points), again)

    def test_the_cost_is_the_least_over_all_plans(self):
        chance = random.Random(1)
        words = set()
        for turn in range(400):
            start, end, horizon, cells, points = drawn_case(chance, 9)
            told = self.told(start, end, horizon=horizon, cells=cells, points=points)
            words.add(told[0])
            cost = searched_cost(start, end, horizon, cells, points)
            if told[0] == "gap":
                self.assertIsNone(cost)
            else:
                self.assertEqual(dict(told[2])[end], cost)
        self.assertEqual(words, {"plan", "gap"})

    def test_a_stretch_of_400_cells(self):
        cells = [(at, at + 1) for at in range(400)] + [(at, at + 20) for at in range(0, 400, 20)]
        points = [at % 400 for at in range(2000)]
        self.assertEqual(dict(self.told(0, 400, horizon=30, cells=cells, points=points)[2])[400], 20)


class IsPlan(unittest.TestCase):
    CELLS = [(0, 4), (4, 8), (2, 6), (0, 4)]

    def holds(self, pieces, start=0, end=12, horizon=None):
        return is_plan(pieces, start, end, horizon=horizon, cells=self.CELLS)

    def test_plans(self):
        self.assertIs(self.holds([("cell", 0, 4), ("points", 4, 12)]), True)
        self.assertIs(self.holds([("points", 0, 1), ("points", 1, 12)]), True)
        self.assertIs(self.holds([("cell", 0, 4), ("points", 4, 12)], horizon=4), True)
        self.assertIs(self.holds([], 3, 3), True)

    def test_none(self):
        none = [
            [], [("points", 1, 12)], [("points", -1, 12)], [("cell", 0, 4), ("points", 5, 12)],
            [("cell", 0, 4), ("points", 3, 12)], [("points", 0, 13)], [("points", 0, 11)],
            [("points", 0, 12), ("points", 12, 12)], [("points", 0, 0), ("points", 0, 12)],
            [("points", 0, 5), ("points", 5, 3), ("points", 3, 12)],
            [("Points", 0, 12)], [("cells", 0, 4), ("points", 4, 12)], [(None, 0, 12)], [(["points"], 0, 12)],
            [("points", 0)], [("points", 0, 12, 0)], [()], [("points",)],
            [("cell", 0, 3), ("points", 3, 12)], [("cell", 0, 12)], [("points", 0, 12), ()],
            [("points", False, 12)], [("points", "0", 12)], [("points", None, 12)], [("points", [0], 12)],
            [("cell", (0, 4), 4), ("points", 4, 12)], [("cell", 0, [4]), ("points", 4, 12)],
        ]
        for pieces in none:
            self.assertIs(self.holds(pieces), False, pieces)
        self.assertIs(is_plan([("points", 0, True)], 0, 1), False)
        self.assertIs(is_plan([("points", 0, True), ("points", 1, 2)], 0, 2), False)
        self.assertIs(is_plan([("cell", False, True)], 0, 1, cells=[(0, 1)]), False)
        self.assertIs(self.holds([("points", 3, 3)], 3, 3), False)

    def test_points_below_the_horizon(self):
        self.assertIs(self.holds([("points", 0, 12)], horizon=1), False)
        self.assertIs(self.holds([("cell", 0, 4), ("points", 4, 12)], horizon=5), False)
        self.assertIs(self.holds([("points", 0, 12)], horizon=0), True)

    def test_cost(self):
        self.assertEqual(cost_of([], [1, 2]), 0)
        self.assertEqual(cost_of([("cell", 0, 4), ("points", 4, 12)], [1, 2, 3, 4, 4, 11, 12]), 4)
        self.assertEqual(cost_of([("points", 0, 4)], [1, 1, 1, 0, 4]), 4)


class ShowsLeast(unittest.TestCase):
    """A stretch from 0 to 12 of the cells below, with the horizon 4, has the edges 0, 2, 4, 6, 8 and 12."""

    CELLS = [(0, 4), (4, 8), (2, 6), (8, 14), (0, 4)]
    POINTS = [5, 5, 7, 9]
    PLAN = [("cell", 0, 4), ("cell", 4, 8), ("points", 8, 12)]
    HEIGHTS = [(0, 0), (4, 1), (6, 3), (8, 2), (12, 3)]

    def shown(self, thing, horizon=4):
        return shows_least(thing, 0, 12, horizon=horizon, cells=self.CELLS, points=self.POINTS)

    def test_plans(self):
        self.assertIs(self.shown(("plan", self.PLAN, self.HEIGHTS)), True)
        self.assertIs(self.shown(("plan", self.PLAN, self.HEIGHTS[::-1])), True)
        # Heights may be less than they could be, but the end's is the plan's cost.
        self.assertIs(self.shown(("plan", self.PLAN, [(0, 0), (4, 1), (6, -5), (8, 2), (12, 3)])), False)
        self.assertIs(self.shown(("plan", self.PLAN, [(0, 0), (4, 1), (6, 2), (8, 2), (12, 3)])), True)
        self.assertIs(self.shown(("plan", self.PLAN, [(0, 0), (2, 2), (4, 1), (6, 3), (8, 2), (12, 3)])), True)
        self.assertIs(self.shown(("plan", self.PLAN, [(0, 0), (2, 1), (4, 1), (6, 3), (8, 2), (12, 3)])), False)

    def test_no_plans(self):
        heights = self.HEIGHTS
        plan = self.PLAN
        none = [
            None, 0, True, "plan", [], (), ["plan", plan, heights], ("plan",), ("plan", plan), ("Plan", plan, heights),
            ("plan", plan, heights, 0), ("gap", plan, heights), (("plan",), plan, heights), (None, plan, heights),
            ("plan", tuple(plan), heights), ("plan", plan, tuple(heights)), ("plan", None, heights),
            ("plan", plan, None), ("plan", plan, dict(heights)), ("plan", heights, plan),
            ("plan", [list(piece) for piece in plan], heights), ("plan", plan, [list(pair) for pair in heights]),
            ("plan", plan[:2], heights), ("plan", plan + [None], heights), ("plan", plan, heights + [None]),
            ("plan", plan, heights + [(0, 0)]), ("plan", plan, heights + [(4, 1)]), ("plan", plan, heights + [(5, 9)]),
            ("plan", plan, heights + [(14, 9)]), ("plan", plan, heights[1:]), ("plan", plan, heights[:-1]),
            ("plan", plan, [(0, 1)] + heights[1:]), ("plan", plan, [(0, False)] + heights[1:]),
            ("plan", plan, [(False, 0)] + heights[1:]), ("plan", plan, [(0, None)] + heights[1:]),
            ("plan", plan, [("0", 0)] + heights[1:]), ("plan", plan, [([0], 0)] + heights[1:]),
            ("plan", plan, [(0, 0), (4, True)] + heights[2:]), ("plan", plan, [(0, 0, 0)] + heights[1:]),
            ("plan", plan, [(0, 0), (4, 2), (6, 3), (8, 2), (12, 3)]),
            ("plan", plan, [(0, 0), (4, 1), (6, 4), (8, 2), (12, 3)]),
            ("plan", plan, [(0, 0), (4, 1), (8, 2), (12, 3)]), ("plan", plan, [(0, 0), (4, 1), (6, 3), (8, 2), (12, 2)]),
            ("plan", plan, [(0, 0), (4, 0), (6, 2), (8, 1), (12, 2)]),
            ("plan", [("cell", 0, 4), ("points", 4, 12)], heights),
            ("plan", [("cell", 0, 4), ("cell", 4, 8), ("points", 8, 12, 0)], heights),
        ]
        for thing in none:
            self.assertIs(self.shown(thing), False, thing)

    def test_gaps(self):
        cells = [(0, 4), (6, 8), (4, 6), (9, 12)]
        named = {"horizon": 9, "cells": cells}
        self.assertIs(shows_least(("gap", [0, 4, 6, 8]), 0, 12, **named), True)
        self.assertIs(shows_least(("gap", [8, 6, 4, 0]), 0, 12, **named), True)
        none = [
            ("gap", [0, 4, 6, 8, 4]), ("gap", [4, 6, 8]), ("gap", [0, 4, 6, 8, 12]), ("gap", [0, 4, 6, 8, 5]),
            ("gap", [0, 4, 8]), ("gap", [0]), ("gap", []), ("gap", [0, 4, 6, 8, 9]), ("gap", (0, 4, 6, 8)),
            ("gap", [False, 4, 6, 8]), ("gap", [0, 4, 6, 8, None]), ("gap", [0, 4, 6, [8]]), ("gap",),
            ("gap", [0, 4, 6, 8], []), ["gap", [0, 4, 6, 8]], ("plan", [0, 4, 6, 8]), ("gap", None), ("gap", "0468"),
            ("gap", [0, 4, 6, "8"]), (["gap"], [0, 4, 6, 8]),
        ]
        for thing in none:
            self.assertIs(shows_least(thing, 0, 12, **named), False, thing)
        # From 9 on the points lead to the end.
        self.assertIs(shows_least(("gap", [0, 4, 6, 8]), 0, 12, horizon=8, cells=cells), False)

    def test_an_empty_stretch(self):
        self.assertIs(shows_least(("plan", [], [(5, 0)]), 5, 5), True)
        self.assertIs(shows_least(("plan", [], [(5, 0)]), 5, 5, horizon=9, cells=[(4, 6)], points=[5]), True)
        for thing in (("plan", [], []), ("plan", [], [(5, 1)]), ("gap", [5]), ("gap", []), ("plan", [], [(5, 0)] * 2)):
            self.assertIs(shows_least(thing, 5, 5), False, thing)

    def test_drawn_heights_against_what_they_have_to_be(self):
        chance = random.Random(2)
        seen = set()
        for turn in range(500):
            start, end, horizon, cells, points = drawn_case(chance, 8)
            named = {"horizon": horizon, "cells": cells, "points": points}
            told = least_plan(start, end, **named)
            if told[0] == "gap" or start == end:
                continue
            heights = [(time, height + chance.choice([0, 0, 0, 0, 1, -1])) for time, height in told[2]]
            if chance.random() < 0.3:
                heights.pop(chance.randrange(len(heights)))
            shown = self.plain_heights(heights, start, end, horizon, cells, points)
            shown = shown and dict(heights)[end] == cost_of(told[1], points)
            self.assertIs(shows_least(("plan", told[1], heights), start, end, **named), shown)
            seen.add(shown)
        self.assertEqual(seen, {True, False})

    def plain_heights(self, heights, start, end, horizon, cells, points):
        table = dict(heights)
        if table.get(start) != 0 or end not in table:
            return False
        edges = plain_edges(start, end, cells)
        steps = [(cell[0], cell[1], 1) for cell in cells if start <= cell[0] and cell[1] <= end]
        for edge, behind in zip(edges, edges[1:]):
            if horizon is None or edge >= horizon:
                steps.append((edge, behind, len([time for time in points if edge <= time < behind])))
        for edge, behind, cost in steps:
            if edge in table and (behind not in table or table[behind] > table[edge] + cost):
                return False
        return True


if __name__ == "__main__":
    unittest.main()
