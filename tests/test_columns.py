import itertools
import random
import unittest

from timegranary.columns import (
    WAYS, Column, back, own, own_size, pack, plain, read_column, read_own, size_by, turned,
)
from timegranary.errors import NoBits, NoPlace

GREAT = 10 ** 20 - 1
CHANCE = random.Random(14)

# Columns of each sort that the ways are made for.
COLUMNS = {
    "none": [],
    "one": [7],
    "one nought": [0],
    "one below 0": [-7],
    "one great": [-GREAT],
    "two": [3, 9],
    "two falling": [9, 3],
    "alike": [5] * 70,
    "noughts": [0] * 40,
    "ones below 0": [-1] * 33,
    "rising": list(range(100, 200)),
    "falling": list(range(50, -50, -1)),
    "rising ever more": [place * place for place in range(80)],
    "rising by tens and ones": [600 * place + place % 3 for place in range(96)],
    "below 0": [-5, -9, -1, -1, -30, -2],
    "about 0": [0, 1, -1, 2, -2, 3, -3, 0, 0, 1],
    "flags": [CHANCE.randint(0, 1) for place in range(150)],
    "runs": [worth for worth in (4, -4, 4, 0, 9) for place in range(37)],
    "few great ones": [CHANCE.choice((GREAT, -GREAT, 0, 17)) for place in range(65)],
    "great": [CHANCE.randint(-GREAT, GREAT) for place in range(64)],
    "great steps": [GREAT if place % 2 else -GREAT for place in range(31)],
    "any": [CHANCE.randint(-9, 9) for place in range(97)],
}


def length_by_twos(number):
    length = 0
    while number:
        number //= 2
        length += 1
    return length


def model_plain(number, width):
    return "".join(str(number // 2 ** (width - 1 - place) % 2) for place in range(width))


def model_own(number):
    length = length_by_twos(number + 1)
    return "0" * (length - 1) + model_plain(number + 1, length)


def model_turned(number):
    return 2 * number if number >= 0 else -2 * number - 1


def model_bits(numbers, way):
    """The bits as [15] tells them, written code by code."""
    if not numbers:
        return ""
    signed = lambda number: model_own(model_turned(number))
    if way == "plain":
        width = length_by_twos(max(numbers) - min(numbers))
        head = signed(min(numbers)) + model_own(width)
        return head + "".join(model_plain(number - min(numbers), width) for number in numbers)
    steps = [two - one for one, two in zip(numbers, numbers[1:])]
    if way == "steps":
        return "".join(signed(number) for number in numbers[:1] + steps)
    if way == "turns":
        turns = [two - one for one, two in zip(steps, steps[1:])]
        return "".join(signed(number) for number in numbers[:1] + steps[:1] + turns)
    if way == "runs":
        runs = [(number, len(list(group))) for number, group in itertools.groupby(numbers)]
        return "".join(signed(number) + model_own(length - 1) for number, length in runs)
    book = sorted(set(numbers))
    width = length_by_twos(len(book) - 1)
    gaps = [two - one - 1 for one, two in zip(book, book[1:])]
    head = model_own(len(book) - 1) + signed(book[0]) + "".join(model_own(gap) for gap in gaps)
    return head + "".join(model_plain(book.index(number), width) for number in numbers)


class Cut(Exception):
    """The place at which the model can't read on."""


class Reader:
    """The model of [16]: reads codes one by one from the beginning."""

    def __init__(self, bits):
        self.bits = bits
        self.at = 0

    def plain(self, width):
        if self.at + width > len(self.bits):
            raise Cut(self.at)
        told = 0
        for sign in self.bits[self.at:self.at + width]:
            told = 2 * told + int(sign)
        self.at += width
        return told

    def own(self):
        begin = self.at
        noughts = 0
        while begin + noughts < len(self.bits) and self.bits[begin + noughts] == "0":
            noughts += 1
        if begin + 2 * noughts + 1 > len(self.bits):
            raise Cut(begin)
        self.at = begin + noughts
        return self.plain(noughts + 1) - 1

    def signed(self):
        told = self.own()
        return told // 2 if told % 2 == 0 else -(told + 1) // 2


def model_numbers(reader, way, many):
    if many == 0:
        return []
    if way == "plain":
        least, width = reader.signed(), reader.own()
        return [least + reader.plain(width) for place in range(many)]
    if way == "steps":
        return list(itertools.accumulate(reader.signed() for place in range(many)))
    if way == "turns":
        first = reader.signed()
        steps = list(itertools.accumulate(reader.signed() for place in range(many - 1)))
        return list(itertools.accumulate([first] + steps))
    numbers = []
    if way == "runs":
        while len(numbers) < many:
            number, begin = reader.signed(), reader.at
            length = reader.own() + 1
            if len(numbers) + length > many:
                raise Cut(begin)
            numbers += [number] * length
        return numbers
    last, book = reader.own(), [reader.signed()]
    for place in range(last):
        book.append(book[-1] + reader.own() + 1)
    width = length_by_twos(last)
    for place in range(many):
        begin, place_in_book = reader.at, reader.plain(width)
        if place_in_book > last:
            raise Cut(begin)
        numbers.append(book[place_in_book])
    return numbers


def model_read(way, bits, many):
    """The numbers, or the place at which they are refused as a Cut."""
    reader = Reader(bits)
    numbers = model_numbers(reader, way, many)
    if reader.at < len(bits):
        raise Cut(reader.at)
    return numbers


class Codes(unittest.TestCase):
    def test_plain(self):
        self.assertEqual([plain(0, 0), plain(0, 1), plain(1, 1), plain(0, 3)], ["", "0", "1", "000"])
        self.assertEqual([plain(5, 3), plain(5, 5), plain(2, 2)], ["101", "00101", "10"])
        for width in range(7):
            for number in range(2 ** width):
                self.assertEqual(plain(number, width), model_plain(number, width))
        self.assertEqual(plain(GREAT, 67), model_plain(GREAT, 67))
        self.assertEqual(plain(width=80, number=GREAT), "0" * 13 + model_plain(GREAT, 67))
        self.assertEqual(plain(number=0, width=90), "0" * 90)

    def test_turned_and_back(self):
        self.assertEqual([turned(number) for number in (0, -1, 1, -2, 2, -3)], [0, 1, 2, 3, 4, 5])
        self.assertEqual([back(number) for number in range(6)], [0, -1, 1, -2, 2, -3])
        for number in [*range(-70, 70), GREAT, -GREAT, GREAT - 1, 1 - GREAT]:
            self.assertEqual(turned(number), model_turned(number))
            self.assertEqual(back(turned(number)), number)
        for number in [*range(140), GREAT, GREAT - 1]:
            self.assertEqual(turned(back(number)), number)
        self.assertEqual([turned(number=GREAT), turned(-GREAT)], [2 * GREAT, 2 * GREAT - 1])
        self.assertEqual(back(number=2 * GREAT - 1), -GREAT)

    def test_own(self):
        told = [own(number) for number in range(8)]
        self.assertEqual(told, ["1", "010", "011", "00100", "00101", "00110", "00111", "0001000"])
        for number in [*range(300), GREAT, 2 * GREAT]:
            self.assertEqual(own(number), model_own(number))
            self.assertEqual(own_size(number), len(model_own(number)))
        self.assertEqual(own(number=2), "011")
        self.assertEqual(own_size(number=2), 3)

    def test_read_own_from_several_places(self):
        numbers = [0, 5, GREAT, 1, 0, 0, 2, 2 * GREAT, 3]
        bits = "".join(own(number) for number in numbers)
        at = 0
        for number in numbers:
            told = read_own(bits, at)
            self.assertEqual(told, (number, at + len(own(number))))
            self.assertIs(type(told), tuple)
            at = told[1]
        self.assertEqual(at, len(bits))
        self.assertEqual(read_own(at=1, bits="00100"), (1, 4))
        self.assertEqual(read_own("00100", 2), (0, 3))

    def test_read_own_where_no_whole_code_begins(self):
        cases = [
            ("", 0), ("0", 0), ("00", 0), ("000", 0), ("01", 0), ("1", 1), ("0010", 0), ("00100", 3), ("00100", 4),
            ("00100", 5), ("10", 1), ("1" + "0" * 50, 1), ("1" + "0" * 50 + "1", 1),
        ]
        for bits, at in cases:
            with self.assertRaises(NoBits) as caught:
                read_own(bits, at)
            self.assertEqual(caught.exception.at, at, (bits, at))

    def test_read_own_of_all_short_bits(self):
        for length in range(8):
            for signs in itertools.product("01", repeat=length):
                bits = "".join(signs)
                for at in range(length + 1):
                    reader = Reader(bits)
                    reader.at = at
                    try:
                        told = (reader.own(), reader.at)
                    except Cut:
                        with self.assertRaises(NoBits) as caught:
                            read_own(bits, at)
                        self.assertEqual(caught.exception.at, at)
                    else:
                        self.assertEqual(read_own(bits, at), told)


class Ways(unittest.TestCase):
    def test_the_ways(self):
        self.assertEqual(WAYS, ("plain", "steps", "turns", "runs", "book"))
        self.assertIs(type(WAYS), tuple)

    def test_bits_by_hand(self):
        told = {way: pack([3, 3, 5], way=way).bits for way in WAYS}
        self.assertEqual(told, {
            "plain": "00111" + "011" + "00" + "00" + "10",
            "steps": "00111" + "1" + "00101",
            "turns": "00111" + "1" + "00101",
            "runs": "00111" + "010" + "0001011" + "1",
            "book": "010" + "00111" + "010" + "0" + "0" + "1",
        })

    def test_each_way_of_each_column(self):
        for name, numbers in COLUMNS.items():
            for way in WAYS:
                with self.subTest(f"{name} by {way}"):
                    column = pack(numbers, way=way)
                    self.assertEqual(column.bits, model_bits(numbers, way))
                    self.assertEqual((column.way, column.many, len(column)), (way, len(numbers), len(numbers)))
                    self.assertEqual(size_by(numbers, way), len(column.bits))
                    self.assertEqual(size_by(way=way, numbers=tuple(numbers)), len(column.bits))
                    self.assertEqual(column.unpacked(), numbers)

    def test_nothing_for_a_column_of_none(self):
        for way in WAYS:
            column = pack([], way=way)
            self.assertEqual((column.way, column.bits, column.many, len(column)), (way, "", 0, 0))
            self.assertEqual((column.unpacked(), column.part(0, 0), size_by([], way)), ([], [], 0))
        self.assertEqual(pack([]).way, "plain")

    def test_pack_by_the_first_way_of_fewest_bits(self):
        chosen = set()
        for name, numbers in COLUMNS.items():
            sizes = [len(model_bits(numbers, way)) for way in WAYS]
            column = pack(numbers)
            self.assertEqual(column.way, WAYS[sizes.index(min(sizes))], name)
            self.assertEqual(column.bits, model_bits(numbers, column.way))
            self.assertEqual(column.unpacked(), numbers)
            chosen.add(column.way)
        self.assertEqual(chosen, set(WAYS))

    def test_pack_of_all_small_columns(self):
        for many in range(5):
            for numbers in itertools.product((-3, 0, 1, 4), repeat=many):
                sizes = [len(model_bits(list(numbers), way)) for way in WAYS]
                column = pack(list(numbers))
                self.assertEqual(column.way, WAYS[sizes.index(min(sizes))], numbers)
                self.assertEqual(column.unpacked(), list(numbers))

    def test_nothing_is_changed_and_told_lists_are_new(self):
        for way in (None, *WAYS):
            numbers = [4, 4, -2, 9]
            column = pack(numbers, way=way)
            self.assertEqual(numbers, [4, 4, -2, 9])
            numbers[0] = 5
            numbers.append(1)
            self.assertEqual(column.unpacked(), [4, 4, -2, 9])
            column.unpacked().clear()
            column.part(0, 4).append(7)
            self.assertEqual((column.unpacked(), column.part(0, 4)), ([4, 4, -2, 9], [4, 4, -2, 9]))


class Columns(unittest.TestCase):
    def test_one_and_part_of_all_places_and_stretches(self):
        for name, numbers in COLUMNS.items():
            for way in WAYS:
                column = pack(numbers, way=way)
                for place, number in enumerate(numbers):
                    self.assertEqual(column.one(place), number, (name, way, place))
                    self.assertLessEqual(0, column.looked())
                    self.assertLessEqual(column.looked(), 31)
                ends = [*range(min(len(numbers), 5)), *range(30, 36), *range(62, 67), len(numbers)]
                for start, end in itertools.product(ends, repeat=2):
                    if start <= end <= len(numbers):
                        self.assertEqual(column.part(start, end), numbers[start:end], (name, way, start, end))
                        self.assertLessEqual(column.looked(), 31)
        column = pack([1, 2, 3])
        self.assertEqual((column.one(place=1), column.part(end=3, start=1)), (2, [2, 3]))

    def test_part_of_all_stretches_of_a_column(self):
        numbers = [place // 3 % 7 - 2 for place in range(70)]
        for way in WAYS:
            column = pack(numbers, way=way)
            for start, end in itertools.combinations_with_replacement(range(71), 2):
                self.assertEqual(column.part(start, end), numbers[start:end])
                self.assertLessEqual(column.looked(), 31)

    def test_columns_of_2000_numbers(self):
        for made in (lambda place: 60 * place, lambda place: place // 33, lambda place: (place * place) % 1013):
            numbers = [made(place) for place in range(2000)]
            for way in WAYS:
                column = pack(numbers, way=way)
                self.assertEqual(column.unpacked(), numbers)
                for place in range(2000):
                    self.assertEqual(column.one(place), numbers[place])
                    self.assertLessEqual(column.looked(), 31)
                for start in range(0, 2000, 77):
                    self.assertEqual(column.part(start, 2000), numbers[start:])
                    self.assertLessEqual(column.looked(), 31)

    def test_looked_is_none_by_plain_and_book_and_ahead_of_any(self):
        numbers = [place // 3 for place in range(200)]
        for way in WAYS:
            column = pack(numbers, way=way)
            self.assertEqual(column.looked(), 0)
            column.unpacked()
            self.assertEqual(column.looked(), 0)
            if way in ("plain", "book"):
                for place in range(200):
                    column.one(place)
                    self.assertEqual(column.looked(), 0)
                    column.part(place, 200)
                    self.assertEqual(column.looked(), 0)
                    column.part(place, place)
                    self.assertEqual(column.looked(), 0)

    def test_looked_is_of_the_last_one_or_part(self):
        for way in ("steps", "turns", "runs"):
            column = pack(list(range(64)), way=way)
            column.one(31)
            far = column.looked()
            self.assertGreater(far, 0)
            self.assertEqual(column.looked(), far)
            column.unpacked()
            self.assertEqual(column.looked(), far)
            for refused in ((lambda: column.one(64)), (lambda: column.part(3, 2)), (lambda: column.part(-1, 2))):
                with self.assertRaises(NoPlace):
                    refused()
                self.assertEqual(column.looked(), far)
            for start, end in ((0, 64), (0, 0)):
                column.one(31)
                column.part(start, end)
                self.assertEqual(column.looked(), 0)

    def test_looked_counts_runs(self):
        column = pack([4] * 20 + [5] * 20, way="runs")
        for place, told in ((0, 0), (19, 0), (20, 1), (31, 1), (32, 0), (39, 0)):
            column.one(place)
            self.assertEqual(column.looked(), told, place)

    def refused_at(self, asked, *places):
        with self.assertRaises(NoPlace) as caught:
            asked(*places)
        return caught.exception.at

    def test_places_that_are_not_there(self):
        for numbers in ([], [5], [5, 5, 6, 7], list(range(64))):
            many = len(numbers)
            for way in WAYS:
                column = pack(numbers, way=way)
                self.assertEqual(self.refused_at(column.one, many), many)
                for place in (-1, -2, -many - 1, many + 1, 10 ** 15):
                    self.assertEqual(self.refused_at(column.one, place), place)
                    self.assertEqual(self.refused_at(column.part, place, many), place)
                for end in (-1, many + 1, 10 ** 15):
                    self.assertEqual(self.refused_at(column.part, 0, end), end)
                    self.assertEqual(self.refused_at(column.part, many, end), end)
                # The start first, then the end.
                self.assertEqual(self.refused_at(column.part, many + 1, many + 2), many + 1)
                self.assertEqual(self.refused_at(column.part, -1, -2), -1)
                self.assertEqual(column.part(many, many), [])
        column = pack([5, 5, 6, 7])
        self.assertEqual(self.refused_at(column.part, 3, 2), 2)
        self.assertEqual(self.refused_at(column.part, 1, 0), 0)
        self.assertEqual(self.refused_at(column.part, 5, 2), 5)

    def test_equal_where_way_bits_and_many_are(self):
        self.assertTrue(pack([1, 2, 3], way="steps") == read_column("steps", pack([1, 2, 3], way="steps").bits, 3))
        self.assertFalse(pack([1, 2, 3], way="steps") != pack([1, 2, 3], way="steps"))
        self.assertFalse(pack([1, 2, 3], way="steps") == pack([1, 2, 4], way="steps"))
        self.assertFalse(pack([1, 2, 3], way="steps") == pack([1, 2, 3], way="book"))
        # Two columns with the same bits: by other ways, and of another many.
        self.assertEqual(pack([3], way="steps").bits, pack([3], way="turns").bits)
        self.assertFalse(pack([3], way="steps") == pack([3], way="turns"))
        self.assertEqual(pack([3], way="plain").bits, pack([3, 3], way="plain").bits)
        self.assertFalse(pack([3], way="plain") == pack([3, 3], way="plain"))
        looked, fresh = pack([1, 2, 3], way="steps"), pack([1, 2, 3], way="steps")
        looked.one(2)
        self.assertTrue(looked == fresh)

    def test_never_equal_to_another_kind(self):
        column = pack([1, 2])
        for thing in ([1, 2], (1, 2), (column.way, column.bits, 2), column.bits, 2, True, None, object()):
            self.assertFalse(column == thing)
            self.assertFalse(thing == column)
            self.assertTrue(column != thing)
        for thing in ([], (), "", 0, False, None):
            self.assertFalse(pack([]) == thing)

    def test_its_kind(self):
        self.assertIsInstance(pack([1]), Column)
        self.assertIsInstance(read_column("plain", "", 0), Column)


class ReadColumns(unittest.TestCase):
    def agree(self, way, bits, many):
        """Read bits, and compare what is told or refused with the model."""
        try:
            numbers = model_read(way, bits, many)
        except Cut as cut:
            with self.assertRaises(NoBits) as caught:
                read_column(way, bits, many)
            self.assertEqual(caught.exception.at, cut.args[0], (way, bits, many))
            return None
        column = read_column(way, bits, many)
        self.assertEqual((column.way, column.bits, column.many), (way, bits, many))
        self.assertEqual(column.unpacked(), numbers)
        self.assertEqual([column.one(place) for place in range(many)], numbers)
        self.assertEqual(column.part(many // 2, many), numbers[many // 2:])
        return numbers

    def refused_at(self, way, bits, many):
        with self.assertRaises(NoBits) as caught:
            read_column(way, bits, many)
        return caught.exception.at

    def test_all_that_pack_made(self):
        for name, numbers in COLUMNS.items():
            for way in WAYS:
                column = pack(numbers, way=way)
                told = read_column(many=len(numbers), bits=column.bits, way=way)
                self.assertTrue(told == column)
                self.assertEqual(told.unpacked(), numbers)
                self.assertEqual(told.looked(), 0)

    def test_runs_cut_in_pieces(self):
        bits = own(turned(5)) + own(1) + own(turned(5)) + own(0) + own(turned(-5)) + own(2)
        self.assertEqual(self.agree("runs", bits, 6), [5, 5, 5, -5, -5, -5])
        pieces = "".join(own(turned(place // 40)) + own(0) for place in range(100))
        self.assertEqual(self.agree("runs", pieces, 100), [place // 40 for place in range(100)])
        column = read_column("runs", pieces, 100)
        for place in range(100):
            column.one(place)
            self.assertLessEqual(column.looked(), 31)

    def test_plain_whose_first_number_is_not_the_least_or_whose_width_is_greater(self):
        bits = own(turned(-9)) + own(4) + plain(1, 4) + plain(15, 4) + plain(3, 4)
        self.assertEqual(self.agree("plain", bits, 3), [-8, 6, -6])
        bits = own(turned(2)) + own(70) + plain(1, 70) + plain(0, 70)
        self.assertEqual(self.agree("plain", bits, 2), [3, 2])
        bits = own(turned(2)) + own(3) + plain(0, 3) + plain(0, 3)
        self.assertEqual(self.agree("plain", bits, 2), [2, 2])

    def test_a_book_with_what_does_not_come(self):
        bits = own(4) + own(turned(-2)) + own(0) + own(5) + own(0) + own(9) + plain(4, 3) + plain(0, 3) + plain(4, 3)
        self.assertEqual(self.agree("book", bits, 3), [16, -2, 16])
        bits = own(1) + own(turned(7)) + own(0) + "0"
        self.assertEqual(self.agree("book", bits, 1), [7])

    def test_numbers_of_more_than_twenty_figures(self):
        great = 10 ** 60
        for way in WAYS:
            bits = model_bits([great, -great, 0], way)
            self.assertEqual(self.agree(way, bits, 3), [great, -great, 0])

    def test_bits_cut_off_anywhere(self):
        for name, numbers in COLUMNS.items():
            for way in WAYS:
                bits = pack(numbers[:40], way=way).bits
                places = range(len(bits)) if len(bits) < 400 else range(0, len(bits), 23)
                for place in places:
                    self.assertIsNone(self.agree(way, bits[:place], len(numbers[:40])), (name, way, place))

    def test_bits_too_many(self):
        for name, numbers in COLUMNS.items():
            for way in WAYS:
                bits = pack(numbers, way=way).bits
                for more in ("0", "1", "10", "00000000"):
                    self.assertEqual(self.refused_at(way, bits + more, len(numbers)), len(bits), (name, way))

    def test_another_many(self):
        for name, numbers in COLUMNS.items():
            for way in WAYS:
                bits = pack(numbers, way=way).bits
                for many in (len(numbers) - 2, len(numbers) - 1, len(numbers) + 1, len(numbers) + 40):
                    if many >= 0:
                        self.agree(way, bits, many)

    def test_a_many_of_0_and_none_beside_one_above(self):
        for way in WAYS:
            self.assertEqual(read_column(way, "", 0).unpacked(), [])
            for bits in ("0", "1", "1111", pack([4, 5], way=way).bits):
                self.assertEqual(self.refused_at(way, bits, 0), 0)
            for many in (1, 2, 2000):
                self.assertEqual(self.refused_at(way, "", many), 0)

    def test_a_run_beyond_many(self):
        first, length = own(turned(9)), own(2)
        bits = first + length + own(turned(-1)) + own(3)
        self.assertEqual(self.agree("runs", bits, 7), [9, 9, 9, -1, -1, -1, -1])
        self.assertEqual(self.refused_at("runs", bits, 6), len(first + length + own(turned(-1))))
        self.assertEqual(self.refused_at("runs", bits, 2), len(first))
        self.assertEqual(self.refused_at("runs", bits, 3), len(first + length))
        self.assertEqual(self.refused_at("runs", first + own(10 ** 30), 2000), len(first))

    def test_a_place_beyond_the_book(self):
        head = own(4) + own(turned(0)) + own(0) * 4
        codes = [plain(code, 3) for code in (0, 4, 5, 1)]
        self.assertEqual(self.refused_at("book", head + "".join(codes), 4), len(head) + 6)
        self.assertEqual(self.agree("book", head + codes[0] + codes[1], 2), [0, 4])
        # Of several things the one that stands first.
        self.assertEqual(self.refused_at("book", head + "".join(codes) + "0", 4), len(head) + 6)
        self.assertEqual(self.refused_at("book", head + "".join(codes)[:-1], 4), len(head) + 6)
        self.assertEqual(self.refused_at("book", head + codes[0] + "11", 2), len(head) + 3)

    def test_great_heads(self):
        head = own(0) + own(10 ** 30)
        self.assertEqual(self.refused_at("plain", head, 1), len(head))
        self.assertEqual(self.refused_at("plain", head + "0101", 5), len(head))
        book = own(10 ** 30) + own(0) + own(3)
        self.assertEqual(self.refused_at("book", book, 1), len(book))

    def test_as_the_model_of_all_short_bits(self):
        for length in range(10):
            for signs in itertools.product("01", repeat=length):
                bits = "".join(signs)
                for way in WAYS:
                    for many in range(4):
                        self.agree(way, bits, many)

    def test_as_the_model_of_bits_with_one_other_sign(self):
        for name, numbers in COLUMNS.items():
            for way in WAYS:
                bits = pack(numbers[:35], way=way).bits
                for place in range(0, len(bits), 1 + len(bits) // 60):
                    other = "1" if bits[place] == "0" else "0"
                    self.agree(way, bits[:place] + other + bits[place + 1:], len(numbers[:35]))


if __name__ == "__main__":
    unittest.main()
