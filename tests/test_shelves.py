"""[24]: shelves of blocks."""

import random
import unittest

from timegranary.blocks import Block, read_block
from timegranary.rows import needless
from timegranary.shelves import Shelf, level


def block_of(place, *times, number=1, weight=None):
    return Block({place: [(time, number, time * 10) for time in times]}, weight=weight)


class Level(unittest.TestCase):
    def test_level(self):
        self.assertEqual([level(weight) for weight in (1, 2, 3, 4, 7, 8, 9, 1023, 1024)], [0, 1, 1, 2, 2, 3, 3, 9, 10])
        for power in range(60):
            self.assertEqual(level(2 ** power), power)
            self.assertEqual(level(2 ** (power + 1) - 1), power)


class Laying(unittest.TestCase):
    def test_unlike_levels_stay(self):
        shelf = Shelf()
        self.assertEqual([shelf.laid(block_of(0, *range(many))) for many in (4, 2, 1)], [0, 0, 0])
        self.assertEqual(shelf.weights(), [4, 2, 1])

    def test_like_levels_are_poured(self):
        shelf = Shelf()
        self.assertEqual([shelf.laid(block_of(0, time)) for time in range(8)], [0, 1, 0, 2, 0, 1, 0, 3])
        self.assertEqual(shelf.weights(), [8])
        self.assertEqual(shelf.rows_of(0, 0, 99), [(time, 1, time * 10) for time in range(8)])

    def test_weights_two_and_three_are_of_one_level(self):
        shelf = Shelf([block_of(0, 1, weight=2)])
        self.assertEqual(shelf.laid(block_of(0, 2, weight=3)), 1)
        self.assertEqual(shelf.weights(), [5])

    def test_the_poured_block_stands_in_the_first_ones_place(self):
        shelf = Shelf([block_of(0, 1, weight=1), block_of(0, 2, weight=8), block_of(0, 3, weight=64)])
        self.assertEqual(shelf.laid(block_of(0, 4, weight=1)), 1)
        self.assertEqual(shelf.weights(), [2, 8, 64])
        self.assertEqual(read_block(shelf.block_texts()[0]).rows_in(0, 0, 9), [(1, 1, 10), (4, 1, 40)])

    def test_the_least_level_and_of_it_the_first_two_are_poured_first(self):
        shelf = Shelf([block_of(0, at, weight=weight) for at, weight in enumerate((4, 1, 5, 1, 1))])
        # 4 1 5 1 1 2, the ones at the least level: 4 2 5 1 2; then the twos: 4 4 5 1; the first two fours: 8 5 1.
        self.assertEqual(shelf.laid(block_of(0, 9, weight=2)), 3)
        self.assertEqual(shelf.weights(), [8, 5, 1])
        texts = shelf.block_texts()
        self.assertEqual([row[0] for row in read_block(texts[0]).rows_in(0, 0, 99)], [0, 1, 3, 9])
        self.assertEqual([row[0] for row in read_block(texts[1]).rows_in(0, 0, 99)], [2])
        self.assertEqual([row[0] for row in read_block(texts[2]).rows_in(0, 0, 99)], [4])

    def test_drawn_layings_against_a_plain_list(self):
        chance = random.Random(3)
        for turn in range(60):
            shelf = Shelf()
            plain = []
            for at in range(20):
                weight = chance.randint(1, 9)
                plain.append(weight)
                many = 0
                while True:
                    levels = [weight.bit_length() for weight in plain]
                    twice = [own for own in levels if levels.count(own) > 1]
                    if not twice:
                        break
                    one = levels.index(min(twice))
                    two = levels.index(min(twice), one + 1)
                    plain[one] += plain.pop(two)
                    many += 1
                self.assertEqual(shelf.laid(block_of(at % 3, at, weight=weight)), many)
                self.assertEqual(shelf.weights(), plain)
            for place in range(3):
                self.assertEqual(
                    shelf.rows_of(place, 0, 20), [(at, 1, at * 10) for at in range(20) if at % 3 == place]
                )

    def test_as_many_pourings_as_blocks_less_one_come_to_one_block(self):
        shelf = Shelf()
        self.assertEqual(sum([shelf.laid(block_of(0, time)) for time in range(64)]), 63)
        self.assertEqual(shelf.weights(), [64])


class Rows(unittest.TestCase):
    def shelf(self):
        one = Block({0: [(0, 1, 5), (0, 3, None), (60, 2, 7)], 2: [(1, 1, 1)]}, weight=16)
        two = Block({0: [(0, 2, 6), (60, 2, 7), (90, 4, None)], 5: [(7, 7, 7)]}, weight=4)
        return Shelf([one, two])

    def test_rows_of(self):
        shelf = self.shelf()
        rows = [(0, 1, 5), (0, 2, 6), (0, 3, None), (60, 2, 7), (90, 4, None)]
        self.assertEqual(shelf.rows_of(0, 0, 91), rows)
        self.assertEqual(shelf.rows_of(0, 0, 90), rows[:4])
        self.assertEqual(shelf.rows_of(0, 1, 60), [])
        self.assertEqual(shelf.rows_of(0, 60, 60), [])
        self.assertEqual(shelf.rows_of(0, 60, 61), [(60, 2, 7)])
        self.assertEqual(shelf.rows_of(1, 0, 99), [])
        self.assertEqual(shelf.rows_of(5, 0, 99), [(7, 7, 7)])
        self.assertEqual(Shelf().rows_of(0, 0, 99), [])
        shelf.rows_of(0, 0, 91).clear()
        self.assertEqual(shelf.rows_of(0, 0, 91), rows)

    def test_a_shelf_of_blocks_has_these_without_a_pouring(self):
        blocks = [block_of(0, 1), block_of(0, 2), block_of(1, 3)]
        shelf = Shelf(blocks)
        self.assertEqual(shelf.weights(), [1, 1, 1])
        blocks.clear()
        self.assertEqual(shelf.weights(), [1, 1, 1])
        self.assertEqual(Shelf(blocks=tuple([block_of(0, 1)])).weights(), [1])
        self.assertEqual(Shelf().weights(), [])
        shelf.weights().clear()
        shelf.block_texts().clear()
        self.assertEqual(shelf.weights(), [1, 1, 1])
        # One more of their level pours them all.
        self.assertEqual(shelf.laid(block_of(1, 4)), 3)
        self.assertEqual(shelf.weights(), [4])

    def test_two_shelves_of_one_list_go_on_by_themselves(self):
        blocks = [block_of(0, 1), block_of(0, 2, weight=2)]
        one = Shelf(blocks)
        two = Shelf(blocks)
        one.let_go(2)
        one.laid(block_of(0, 3))
        self.assertEqual(two.rows_of(0, 0, 9), [(1, 1, 10), (2, 1, 20)])
        self.assertEqual([len(block) for block in blocks], [1, 1])

    def test_block_texts(self):
        one = block_of(0, 1, 2, 3)
        two = block_of(4, 1)
        self.assertEqual(Shelf([one, two]).block_texts(), [one.text(), two.text()])
        self.assertEqual(Shelf().block_texts(), [])

    def test_forgotten(self):
        shelf = self.shelf()
        self.assertEqual(shelf.forgotten(0), 0)
        self.assertEqual(shelf.forgotten(1), 0)
        # At 2 the row of 1 is needless: it has a later one in the other block.
        self.assertEqual(shelf.forgotten(2), 1)
        self.assertEqual(shelf.rows_of(0, 0, 91), [(0, 2, 6), (0, 3, None), (60, 2, 7), (90, 4, None)])
        self.assertEqual(shelf.forgotten(2), 0)
        self.assertEqual(shelf.forgotten(3), 2)
        self.assertEqual(shelf.forgotten(99), 1)
        self.assertEqual(shelf.rows_of(0, 0, 91), [(60, 2, 7)])
        self.assertEqual(shelf.weights(), [16, 4])

    def test_a_row_that_two_blocks_had_is_told_twice(self):
        rows = [(0, 1, 5), (0, 2, 6)]
        shelf = Shelf([Block({0: rows}, weight=2), Block({0: rows}, weight=1)])
        self.assertEqual(shelf.forgotten(2), 2)
        self.assertEqual(shelf.rows_of(0, 0, 9), [(0, 2, 6)])
        self.assertEqual(shelf.let_go(1), 2)

    def test_let_go(self):
        shelf = self.shelf()
        self.assertEqual(shelf.let_go(0), 0)
        self.assertEqual(shelf.let_go(1), 3)
        self.assertEqual(shelf.rows_of(0, 0, 91), [(60, 2, 7), (90, 4, None)])
        self.assertEqual(shelf.let_go(60), 2)
        self.assertEqual(shelf.let_go(61), 2)
        self.assertEqual(shelf.weights(), [16, 4])
        self.assertEqual([read_block(text).places() for text in shelf.block_texts()], [[], [0]])
        self.assertEqual(shelf.let_go(91), 1)
        self.assertEqual([read_block(text).places() for text in shelf.block_texts()], [[], []])
        self.assertEqual([read_block(text).weight for text in shelf.block_texts()], [16, 4])
        self.assertEqual(shelf.let_go(999), 0)

    def test_a_series_without_rows_goes_out_of_its_block(self):
        shelf = Shelf([Block({0: [(0, 1, 5)], 1: [(9, 1, 5)]})])
        shelf.let_go(5)
        self.assertEqual(read_block(shelf.block_texts()[0]), Block({1: [(9, 1, 5)]}, weight=2))
        shelf = Shelf([Block({0: [(0, 1, None)], 1: [(9, 1, 5)]})])
        self.assertEqual(shelf.forgotten(1), 1)
        self.assertEqual(read_block(shelf.block_texts()[0]), Block({1: [(9, 1, 5)]}, weight=2))

    def test_blocks_without_rows_are_poured_by_their_weights(self):
        shelf = Shelf([block_of(0, 1, weight=1)])
        shelf.let_go(5)
        self.assertEqual(shelf.laid(block_of(3, 7)), 1)
        self.assertEqual(shelf.weights(), [2])
        self.assertEqual(shelf.rows_of(3, 0, 9), [(7, 1, 70)])

    def test_drawn_shelves_against_plain_rows(self):
        chance = random.Random(4)
        for turn in range(80):
            rows = {}
            for at in range(chance.randint(0, 30)):
                key = (chance.randint(0, 2), chance.randint(0, 6), chance.randint(1, 6))
                rows[key] = chance.choice([None, 1, 2, 3])
            copies = [(key, chance.randint(0, 3)) for key in rows for copy in range(chance.randint(1, 2))]
            copies = sorted(set(copies))
            blocks = []
            for at in range(4):
                table = {}
                for (place, time, number), own in copies:
                    if own == at:
                        table.setdefault(place, []).append((time, number, rows[place, time, number]))
                blocks.append(Block(table, weight=2 ** chance.randint(0, 4)))
            shelf = Shelf(blocks)
            if chance.random() < 0.5:
                number = chance.randint(0, 7)
                gone = {
                    (place, *row[:2]) for place in range(3)
                    for row in needless([(t, n, rows[p, t, n]) for p, t, n in sorted(rows) if p == place], number)
                }
                told = shelf.forgotten(number)
            else:
                time = chance.randint(-1, 8)
                gone = {key for key in rows if key[1] < time}
                told = shelf.let_go(time)
            self.assertEqual(told, len([key for key, own in copies if key in gone]))
            for place in range(3):
                left = [(t, n, rows[p, t, n]) for p, t, n in sorted(rows) if p == place and (p, t, n) not in gone]
                self.assertEqual(shelf.rows_of(place, -9, 99), left)


if __name__ == "__main__":
    unittest.main()
