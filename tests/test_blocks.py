import random
import unittest

from timegranary.blocks import Block, read_block
from timegranary.checks import check
from timegranary.columns import WAYS, own, pack, plain, turned
from timegranary.errors import NoBlock

GREAT = 10 ** 15 - 1
FORTY = "9" * 40

ONE = {3: [(0, 1, 5), (60, 1, 6), (60, 2, None), (120, 3, -7)]}
SEVERAL = {
    7: [(-GREAT, 4, GREAT), (-1, 4, -GREAT), (GREAT, 300, 0)],
    0: [(0, 1, 5), (60, 1, 6), (60, 2, None), (120, 3, -7)],
    2: [(9, 9, None)],
    11: [(60 * place, 1 + place // 7, place % 3) for place in range(90)],
}


def column_words(numbers, way=None):
    column = pack(numbers, way=way)
    return f"{column.way} {column.many} {column.bits or '-'}"


def series_words(place, rows, ways=(None, None, None, None)):
    """The lines of a series, without their checks."""
    columns = (
        [row[0] for row in rows], [row[1] for row in rows], [int(row[2] is not None) for row in rows],
        [row[2] for row in rows if row[2] is not None],
    )
    return [f"series {place} {len(rows)}"] + [column_words(column, way) for column, way in zip(columns, ways)]


def words_of(rows, weight):
    """The lines of a block, without their checks."""
    words = [f"block {weight} {len(rows)}"]
    for place in sorted(rows):
        words += series_words(place, rows[place])
    return words


def text_of(words):
    return "\n".join(f"{line} {check(line)}" for line in words)


def copied(rows):
    return {place: list(told) for place, told in rows.items()}


class MadeBlocks(unittest.TestCase):
    def test_of_no_series(self):
        block = Block({})
        self.assertEqual((block.weight, len(block), block.places(), block.extents()), (0, 0, [], None))
        self.assertEqual(block.rows_in(0, -GREAT, GREAT), [])
        self.assertEqual(Block({}, weight=9).weight, 9)

    def test_of_one_and_of_several(self):
        one, several = Block(ONE), Block(rows=SEVERAL)
        self.assertEqual((one.weight, len(one), one.places()), (4, 4, [3]))
        self.assertEqual((several.weight, len(several), several.places()), (98, 98, [0, 2, 7, 11]))
        for place, rows in SEVERAL.items():
            self.assertEqual(several.rows_in(place, -GREAT, GREAT + 1), rows)

    def test_weight(self):
        for weight in (0, 1, 3, 4, GREAT):
            self.assertEqual((Block(ONE, weight=weight).weight, len(Block(ONE, weight=weight))), (weight, 4))
        self.assertEqual(Block(ONE, weight=None).weight, 4)
        with self.assertRaises(TypeError):
            Block(ONE, 4)

    def test_columns_as_pack_makes_them(self):
        block = Block(SEVERAL)
        for place, rows in SEVERAL.items():
            columns = block.columns_of(place)
            self.assertEqual((type(columns), len(columns)), (tuple, 4))
            told = (
                [row[0] for row in rows], [row[1] for row in rows], [0 if row[2] is None else 1 for row in rows],
                [row[2] for row in rows if row[2] is not None],
            )
            for column, numbers in zip(columns, told):
                self.assertTrue(column == pack(numbers))
                self.assertEqual(column.unpacked(), numbers)
        self.assertEqual([column.many for column in block.columns_of(2)], [1, 1, 1, 0])
        self.assertEqual(block.columns_of(place=2)[3].bits, "")

    def test_columns_are_made_anew_at_each_asking(self):
        block = Block(SEVERAL)
        for column, again in zip(block.columns_of(11), block.columns_of(11)):
            self.assertIsNot(column, again)
            column.one(31)
            self.assertEqual(again.looked(), 0)
        self.assertEqual([column.looked() for column in block.columns_of(11)], [0, 0, 0, 0])

    def test_rows_in_stretches(self):
        block = Block(ONE)
        rows = ONE[3]
        cases = {
            (0, 121): rows, (-5, 500): rows, (0, 120): rows[:3], (1, 121): rows[1:], (60, 61): rows[1:3],
            (60, 120): rows[1:3], (59, 60): [], (61, 120): [], (121, 500): [], (-9, 0): [], (-9, 1): rows[:1],
            (60, 60): [], (120, 0): [], (61, 60): [], (0, 0): [],
        }
        for (start, end), told in cases.items():
            self.assertEqual(block.rows_in(3, start, end), told, (start, end))
        self.assertEqual(block.rows_in(end=61, start=60, place=3), rows[1:3])

    def test_rows_in_of_a_place_that_is_not_there(self):
        for place in (0, 2, 4, -1, 10 ** 15):
            self.assertEqual(Block(ONE).rows_in(place, -GREAT, GREAT), [])

    def test_extents(self):
        self.assertEqual(Block(ONE).extents(), (0, 120, 1, 3))
        self.assertEqual(Block(SEVERAL).extents(), (-GREAT, GREAT, 1, 300))
        self.assertEqual(Block({5: [(-9, 4, None)]}).extents(), (-9, -9, 4, 4))
        self.assertEqual(Block({5: [(7, 2, 0)], 1: [(3, 9, 0), (4, 1, 0)]}).extents(), (3, 7, 1, 9))

    def test_equal_where_rows_and_weight_are(self):
        self.assertTrue(Block(SEVERAL) == Block({place: SEVERAL[place] for place in sorted(SEVERAL)}))
        self.assertFalse(Block(SEVERAL) != Block(SEVERAL))
        self.assertTrue(Block({}) == Block({}, weight=0))
        others = (
            Block(ONE, weight=5), Block({4: ONE[3]}), Block({3: ONE[3][:3]}, weight=4), Block({}, weight=4),
            Block({3: ONE[3][:3] + [(120, 3, None)]}), Block({3: ONE[3][:3] + [(120, 4, -7)]}),
            Block({3: ONE[3][:3] + [(121, 3, -7)]}), Block({**ONE, 4: [(0, 1, 1)]}, weight=4),
        )
        for other in others:
            self.assertFalse(Block(ONE) == other)
            self.assertTrue(Block(ONE) != other)

    def test_never_equal_to_another_kind(self):
        for thing in (ONE, Block(ONE).text(), 4, True, None, [ONE], object()):
            self.assertFalse(Block(ONE) == thing)
            self.assertFalse(thing == Block(ONE))
            self.assertTrue(Block(ONE) != thing)
        for thing in ({}, 0, False, None, "", []):
            self.assertFalse(Block({}) == thing)

    def test_what_is_done_later_changes_nothing(self):
        handed = copied(SEVERAL)
        block = Block(handed)
        self.assertEqual(list(handed), list(SEVERAL))
        self.assertEqual(handed, SEVERAL)
        text = block.text()
        handed[0].append((500, 9, 9))
        handed[2].clear()
        handed[12] = [(0, 1, 1)]
        del handed[7]
        self.assertTrue(block == Block(SEVERAL))
        self.assertEqual((block.text(), block.places(), len(block)), (text, [0, 2, 7, 11], 98))

    def test_told_lists_are_new(self):
        block = Block(ONE)
        block.places().append(9)
        block.rows_in(3, 0, 500).clear()
        self.assertEqual((block.places(), block.rows_in(3, 0, 500)), ([3], ONE[3]))
        self.assertEqual((type(block.places()), type(block.rows_in(3, 0, 1))), (list, list))


class Texts(unittest.TestCase):
    def test_by_hand(self):
        self.assertEqual(Block({}).text(), f"block 0 0 {check('block 0 0')}")
        self.assertEqual(Block({}, weight=12).text(), f"block 12 0 {check('block 12 0')}")
        lines = Block({5: [(0, 3, None)]}).text().split("\n")
        self.assertEqual(
            [line.rpartition(" ")[0] for line in lines],
            ["block 1 1", "series 5 1", "steps 1 1", "steps 1 00111", "steps 1 1", "plain 0 -"],
        )

    def test_of_each_block_and_back(self):
        for rows in ({}, ONE, SEVERAL, {2: [(9, 9, None)]}, {0: [(0, 1, 0)], 1: [(0, 1, None)]}):
            for weight in (None, 0, 77, GREAT):
                block = Block(rows, weight=weight)
                text = block.text()
                self.assertEqual(text, text_of(words_of(rows, block.weight)))
                self.assertTrue(read_block(text) == block)
                self.assertEqual(read_block(text=text).text(), text)

    def test_of_a_block_of_2000_rows(self):
        rows = {place: [(60 * time + place, time + 1, time * place) for time in range(500)] for place in range(4)}
        self.assertTrue(read_block(Block(rows).text()) == Block(rows))

    def test_columns_by_each_way(self):
        for way in WAYS:
            words = ["block 4 1"] + series_words(3, ONE[3], (way, way, way, way))
            self.assertTrue(read_block(text_of(words)) == Block(ONE), way)
            self.assertTrue(read_block(text_of(words)).columns_of(3)[0] == pack([row[0] for row in ONE[3]]))
        for ways in (WAYS[:4], WAYS[1:], WAYS[::-1][:4]):
            words = ["block 4 1"] + series_words(3, ONE[3], ways)
            self.assertTrue(read_block(text_of(words)) == Block(ONE), ways)

    def test_a_column_of_none_by_each_way(self):
        for way in WAYS:
            words = words_of({3: [(0, 1, None)]}, 1)
            words[5] = f"{way} 0 -"
            self.assertTrue(read_block(text_of(words)) == Block({3: [(0, 1, None)]}))

    def test_bits_that_pack_does_not_make(self):
        words = words_of({3: [(5, 1, 4), (5, 2, 4)]}, 2)
        words[2] = "runs 2 " + (own(turned(5)) + own(0)) * 2
        words[5] = "plain 2 " + own(turned(0)) + own(9) + plain(4, 9) * 2
        self.assertTrue(read_block(text_of(words)) == Block({3: [(5, 1, 4), (5, 2, 4)]}))


class WrongTexts(unittest.TestCase):
    def setUp(self):
        self.words = words_of({2: ONE[3], 5: [(9, 9, None)], 9: SEVERAL[7]}, 8)
        self.assertEqual(len(self.words), 16)
        self.assertTrue(read_block(text_of(self.words)) == Block({2: ONE[3], 5: [(9, 9, None)], 9: SEVERAL[7]}))

    def refused_at(self, text):
        with self.assertRaises(NoBlock) as caught:
            read_block(text)
        return caught.exception.at

    def wrong(self, at, line):
        """The place at which the block is refused where a line is another one, with its check."""
        words = list(self.words)
        words[at] = line
        return self.refused_at(text_of(words))

    def test_no_text(self):
        self.assertEqual([self.refused_at(text) for text in ("", "\n", " ", "0", "block", "\nblock 0 0 1")], [0] * 6)

    def test_another_word(self):
        for line in ("blocks 8 3", "Block 8 3", "series 8 3", "8 3", " 8 3", "block 8", "block 8 3 1", "block", ""):
            self.assertEqual(self.wrong(0, line), 0, line)
        for line in ("serie 5 1", "block 5 1", "Series 5 1", "plain 5 1", "series 5", "series 5 1 1", "5 1", ""):
            self.assertEqual(self.wrong(6, line), 6, line)

    def test_blanks(self):
        for at in (0, 1, 2, 6, 9, 15):
            line = self.words[at]
            for other in (" " + line, line + " ", line.replace(" ", "  ", 1), line.replace(" ", "\t", 1)):
                self.assertEqual(self.wrong(at, other), at, other)

    def test_another_way(self):
        for at in (2, 3, 4, 5, 10, 15):
            way, many, bits = self.words[at].split(" ")
            for other in ("", "Plain", "plains", "step", "series", "block", "-", "0"):
                self.assertEqual(self.wrong(at, f"{other} {many} {bits}"), at, other)

    def test_other_signs_in_bits(self):
        for at in (2, 3, 4, 5, 10, 15):
            way, many, bits = self.words[at].split(" ")
            for other in ("", "2", "--", "-0", bits + "2", "a" + bits, bits + "-", "0b" + bits, bits[:1] + "_" + bits):
                self.assertEqual(self.wrong(at, f"{way} {many} {other}"), at, other)

    def test_a_wrong_check(self):
        lines = text_of(self.words).split("\n")
        for at, line in enumerate(lines):
            ahead, blank, told = line.rpartition(" ")
            others = (str(int(told) + 1), "0" + told, "", "-" + told, told + " ", told + "0", str(int(told) + 999983))
            for other in others:
                changed = lines[:at] + [f"{ahead} {other}"] + lines[at + 1:]
                self.assertEqual(self.refused_at("\n".join(changed)), at, other)
            self.assertEqual(self.refused_at("\n".join(lines[:at] + [ahead] + lines[at + 1:])), at)

    def test_each_single_sign_made_another(self):
        chance = random.Random(21)
        signs = [chr(sign) for sign in range(32, 127) if sign != 37]
        lines = text_of(self.words).split("\n")
        for at, line in enumerate(lines):
            for place, sign in enumerate(line):
                other = chance.choice([told for told in signs if told != sign])
                changed = line[:place] + other + line[place + 1:]
                self.assertEqual(self.refused_at("\n".join(lines[:at] + [changed] + lines[at + 1:])), at)

    def test_figures(self):
        bad = (
            "", "-1", "+1", "01", "00", "008", "1.0", "1_0", "a", "0x1", "1" + "0" * 40, "9" * 41, "\u0663", "\u00b2",
        )
        for number in bad:
            self.assertEqual(self.wrong(0, f"block {number} 3"), 0, number)
            self.assertEqual(self.wrong(0, f"block 8 {number}"), 0, number)
            self.assertEqual(self.wrong(6, f"series {number} 1"), 6, number)
            self.assertEqual(self.wrong(6, f"series 5 {number}"), 6, number)
            self.assertEqual(self.wrong(7, self.words[7].replace(" 1 ", f" {number} ", 1)), 7, number)

    def test_forty_figures_are_read(self):
        words = words_of({int(FORTY): [(0, 1, 2)]}, FORTY)
        block = read_block(text_of(words))
        self.assertEqual((block.places(), block.weight), ([int(FORTY)], int(FORTY)))
        # So many series lack, so many rows don't fit.
        self.assertEqual(self.wrong(0, f"block 8 {FORTY}"), 16)
        self.assertEqual(self.wrong(6, f"series 5 {FORTY}"), 6)
        self.assertEqual(self.wrong(8, self.words[8].replace(" 1 ", f" {FORTY} ", 1)), 6)
        self.assertEqual(self.wrong(10, self.words[10].replace(" 0 ", f" {FORTY} ", 1)), 6)

    def test_places_of_series_have_to_rise(self):
        self.assertEqual(self.wrong(6, "series 2 1"), 6)
        self.assertEqual(self.wrong(6, "series 1 1"), 6)
        self.assertEqual(self.wrong(6, "series 9 1"), 11)
        self.assertEqual(self.wrong(6, "series 10 1"), 11)
        self.assertEqual(self.wrong(1, "series 5 4"), 6)
        words = list(self.words)
        words[1] = "series 0 4"
        self.assertEqual(read_block(text_of(words)).places(), [0, 5, 9])

    def test_a_line_lacking(self):
        for many in range(1, 16):
            self.assertEqual(self.refused_at(text_of(self.words[:many])), many)
        self.assertEqual(self.wrong(0, "block 8 4"), 16)
        self.assertEqual(self.refused_at(text_of(["block 0 1"])), 1)
        # Left out of the middle: the next one stands where it mustn't.
        self.assertEqual(self.refused_at(text_of(self.words[:6] + self.words[7:])), 6)
        self.assertEqual(self.refused_at(text_of(self.words[:5] + self.words[6:])), 5)
        self.assertEqual(self.refused_at(text_of(self.words[1:])), 0)

    def test_a_line_too_many(self):
        text = text_of(self.words)
        self.assertEqual(self.refused_at(text + "\n"), 16)
        self.assertEqual(self.refused_at(text + "\n\n"), 16)
        self.assertEqual(self.refused_at(text + "\n" + text_of(["plain 0 -"])), 16)
        self.assertEqual(self.refused_at(text + "\n" + text_of(series_words(12, ONE[3]))), 16)
        self.assertEqual(self.refused_at("\n" + text), 0)
        self.assertEqual(self.refused_at(text_of(["block 8 0"]) + "\n"), 1)
        self.assertEqual(self.wrong(0, "block 8 2"), 11)
        self.assertEqual(self.wrong(0, "block 8 0"), 1)
        lines = text.split("\n")
        for at in range(1, 16):
            self.assertEqual(self.refused_at("\n".join(lines[:at] + [""] + lines[at:])), at)

    def test_the_first_wrong_line(self):
        words = list(self.words)
        words[4] = words[4] + "2"
        words[9] = "series"
        self.assertEqual(self.refused_at(text_of(words)), 4)
        words[4] = self.words[4]
        self.assertEqual(self.refused_at(text_of(words)), 9)
        self.assertEqual(self.refused_at(text_of(words) + "\n"), 9)

    def test_a_wrong_line_ahead_of_columns_that_do_not_fit(self):
        words = list(self.words)
        words[1] = "series 2 5"
        self.assertEqual(self.refused_at(text_of(words)), 1)
        self.assertEqual(self.refused_at(text_of(words) + "\n"), 16)
        self.assertEqual(self.refused_at(text_of(words[:-1])), 15)
        words[15] = "plain 3 x"
        self.assertEqual(self.refused_at(text_of(words)), 15)


class Misfits(unittest.TestCase):
    """Three series, of which the second one's columns are made unfit."""

    ROWS = [(0, 1, 5), (60, 1, 6), (60, 2, None), (120, 3, -7)]
    TIMES, NUMBERS, THERE, WORTHS = [0, 60, 60, 120], [1, 1, 2, 3], [1, 1, 0, 1], [5, 6, -7]

    def refused_at(self, text):
        with self.assertRaises(NoBlock) as caught:
            read_block(text)
        return caught.exception.at

    def words(self, many=4, **columns):
        """The second series with other columns: each a list of numbers, or a line."""
        told = {
            "times": self.TIMES, "numbers": self.NUMBERS, "there": self.THERE, "worths": self.WORTHS, **columns,
        }
        lines = [column if isinstance(column, str) else column_words(column) for column in told.values()]
        return [
            "block 9 3", *series_words(1, [(0, 1, 1)]), f"series 4 {many}", *lines, *series_words(6, [(0, 1, None)]),
        ]

    def unfit(self, many=4, **columns):
        return self.refused_at(text_of(self.words(many, **columns)))

    def test_what_fits(self):
        block = read_block(text_of(self.words()))
        self.assertTrue(block == Block({1: [(0, 1, 1)], 4: self.ROWS, 6: [(0, 1, None)]}, weight=9))

    def test_no_rows(self):
        self.assertEqual(self.unfit(0, times=[], numbers=[], there=[], worths=[]), 6)

    def test_another_many_than_rows(self):
        self.assertEqual([self.unfit(3), self.unfit(5), self.unfit(0)], [6, 6, 6])
        self.assertEqual([self.unfit(times=self.TIMES[:3]), self.unfit(times=self.TIMES + [180])], [6, 6])
        self.assertEqual([self.unfit(numbers=self.NUMBERS[:3]), self.unfit(numbers=self.NUMBERS + [4])], [6, 6])
        self.assertEqual([self.unfit(there=self.THERE[:3]), self.unfit(there=self.THERE + [0])], [6, 6])
        self.assertEqual(self.unfit(there=[1, 1, 1]), 6)

    def test_a_stroke_beside_a_many_above_0(self):
        for name in ("times", "numbers", "there"):
            for way in WAYS:
                self.assertEqual(self.unfit(**{name: f"{way} 4 -"}), 6)
        self.assertEqual(self.unfit(worths="plain 3 -"), 6)

    def test_bits_beside_a_many_of_0(self):
        for way in WAYS:
            self.assertEqual(self.unfit(there=[0, 0, 0, 0], worths=f"{way} 0 11"), 6)
        self.assertEqual(self.unfit(there=[0, 0, 0, 0], worths="plain 0 0"), 6)
        block = read_block(text_of(self.words(there=[0, 0, 0, 0], worths="plain 0 -")))
        self.assertEqual(block.rows_in(4, 0, 1), [(0, 1, None)])

    def test_bits_not_read_to_so_many_numbers(self):
        told = {"times": self.TIMES, "numbers": self.NUMBERS, "there": self.THERE, "worths": self.WORTHS}
        for name, numbers in told.items():
            for way in WAYS:
                words = column_words(numbers, way)
                self.assertEqual(self.unfit(**{name: words[:-1]}), 6)
                self.assertEqual(self.unfit(**{name: words + "0"}), 6)
                self.assertEqual(self.unfit(**{name: words + "1"}), 6)
        self.assertEqual(self.unfit(there="runs 4 " + own(turned(1)) + own(4)), 6)
        self.assertEqual(self.unfit(there="book 4 " + own(2) + own(0) + own(0) * 2 + "00011100"), 6)

    def test_there_with_other_numbers(self):
        for there in ([1, 1, 2, 1], [1, 1, -1, 1], [2, 1, 0, 0], [3, 0, 0, 0], [2, 2, -1, 0], [0, 5, -2, 0]):
            self.assertEqual(self.unfit(there=there), 6)
        self.assertEqual(self.unfit(there=[0, 0, 2, 0], worths=[1, 2]), 6)

    def test_there_with_another_sum(self):
        for there in ([1, 1, 1, 1], [0, 1, 0, 1], [0, 0, 0, 0]):
            self.assertEqual(self.unfit(there=there), 6)
        self.assertEqual([self.unfit(worths=[5, 6]), self.unfit(worths=[]), self.unfit(worths=[1] * 5)], [6, 6, 6])

    def test_times_and_numbers_that_do_not_rise(self):
        self.assertEqual(self.unfit(times=[60, 0, 60, 120]), 6)
        self.assertEqual(self.unfit(times=[0, 60, 120, 60]), 6)
        self.assertEqual(self.unfit(numbers=[1, 2, 1, 3]), 6)
        self.assertEqual(self.unfit(numbers=[1, 2, 2, 3]), 6)
        self.assertEqual(self.unfit(times=[0, 0, 0, 0], numbers=[1, 2, 3, 3]), 6)
        block = read_block(text_of(self.words(times=[0, 1, 2, 3], numbers=[4, 3, 2, 1])))
        self.assertEqual([row[1] for row in block.rows_in(4, 0, 9)], [4, 3, 2, 1])

    def test_so_many_rows_as_the_bits_cannot_tell(self):
        many = int(FORTY)
        alike = {"plain": "11", "runs": own(0) + own(many - 1), "book": "11"}
        for way, bits in alike.items():
            line = f"{way} {many} {bits}"
            self.assertEqual(self.unfit(many, times=line, numbers=line, there=line, worths="plain 0 -"), 6)
            self.assertEqual(self.unfit(there=f"{way} 4 {bits}", worths=line), 6)

    def test_as_many_rows_as_bits_can_tell(self):
        rows = [(0, number, None) for number in range(40)] + [(time, 5, 0) for time in range(1, 40)]
        for ways in ((None,) * 4, ("steps", "turns", "runs", "book"), ("runs", "runs", "plain", "runs")):
            words = ["block 79 1"] + series_words(0, rows, ways)
            self.assertTrue(read_block(text_of(words)) == Block({0: rows}))
        # A bit for each step: a time of ever the same turn, with one number.
        rows = [(time, 0, 0) for time in range(300)]
        for way in ("turns", "steps", None):
            words = ["block 300 1"] + series_words(0, rows, (way, "plain", "runs", "book"))
            self.assertTrue(read_block(text_of(words)) == Block({0: rows}))
        for rows in ([(0, 0, 0), (1, 0, 0)], [(0, 0, None), (0, 1, None)], [(0, 0, None)]):
            for way in WAYS:
                words = [f"block {len(rows)} 1"] + series_words(0, rows, (way,) * 4)
                self.assertTrue(read_block(text_of(words)) == Block({0: rows}))

    def test_the_first_such_series(self):
        words = self.words(there=[1, 1, 1, 1])
        words[15] = "plain 1 11"
        self.assertEqual(self.refused_at(text_of(words)), 6)
        words[1] = "series 1 2"
        self.assertEqual(self.refused_at(text_of(words)), 1)
        words = self.words()
        words[15] = "plain 1 11"
        self.assertEqual(self.refused_at(text_of(words)), 11)


if __name__ == "__main__":
    unittest.main()
