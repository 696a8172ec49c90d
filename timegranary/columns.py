"""Columns of whole numbers, written as bits by one of five ways."""

from timegranary.errors import NoBits, NoPlace

WAYS = ("plain", "steps", "turns", "runs", "book")
# Where one code is understood by those ahead, each so many numbers have a mark, so that no number is far from one.
SPAN = 32
# A mark: the place of the next code, the number ahead, and what the way keeps beside (None at the beginning).
BEGIN = (0, 0, None)


def plain(number, width):
    """The plain code of a number from 0 on, below 2 to the power of the width."""
    return f"{number:b}".zfill(width) if width > 0 else ""


def turned(number):
    """The number from 0 on that stands for any whole number."""
    return 2 * number if number >= 0 else -2 * number - 1


def back(number):
    """The whole number for which a turned one stands."""
    return number // 2 if number % 2 == 0 else -(number // 2) - 1


def own(number):
    """The own code of a number from 0 on."""
    figures = f"{number + 1:b}"
    return "0" * (len(figures) - 1) + figures


def own_size(number):
    """How long the own code of a number is."""
    return 2 * (number + 1).bit_length() - 1


def read_own(bits, at):
    """The number whose own code begins at a place, and the place behind that code."""
    first = bits.find("1", at)
    behind = 2 * first - at + 1
    if first < 0 or behind > len(bits):
        raise NoBits(at)
    return int(bits[first:behind], 2) - 1, behind


def own_codes(numbers):
    """The own codes of numbers, turned."""
    return "".join([own(turned(number)) for number in numbers])


def steps_of(numbers):
    """The first of the numbers, and each next one less the one ahead."""
    return numbers[:1] + [number - ahead for ahead, number in zip(numbers, numbers[1:])]


def runs_of(numbers):
    """The runs of like numbers: each one's number and length."""
    runs = []
    for number in numbers:
        if runs and runs[-1][0] == number:
            runs[-1] = (number, runs[-1][1] + 1)
        else:
            runs.append((number, 1))
    return runs


def write_plain(numbers):
    """The bits of numbers by "plain"."""
    least = min(numbers)
    width = (max(numbers) - least).bit_length()
    codes = [plain(number - least, width) for number in numbers]
    return own(turned(least)) + own(width) + "".join(codes)


def write_steps(numbers):
    """The bits of numbers by "steps"."""
    return own_codes(steps_of(numbers))


def write_turns(numbers):
    """The bits of numbers by "turns"."""
    return own_codes(numbers[:1] + steps_of(steps_of(numbers)[1:]))


def write_runs(numbers):
    """The bits of numbers by "runs"."""
    return "".join([own(turned(number)) + own(length - 1) for number, length in runs_of(numbers)])


def write_book(numbers):
    """The bits of numbers by "book"."""
    book = sorted(set(numbers))
    place_by_number = {number: place for place, number in enumerate(book)}
    width = (len(book) - 1).bit_length()
    gaps = [own(number - ahead - 1) for ahead, number in zip(book, book[1:])]
    codes = [plain(place_by_number[number], width) for number in numbers]
    return own(len(book) - 1) + own(turned(book[0])) + "".join(gaps) + "".join(codes)


WRITERS = {
    "plain": write_plain, "steps": write_steps, "turns": write_turns, "runs": write_runs, "book": write_book,
}


def bits_by(numbers, way):
    """The bits of numbers by a way."""
    told = list(numbers)
    if not told:
        return ""
    writer = WRITERS[way]
    return writer(told)


def size_by(numbers, way):
    """How many bits numbers have by a way."""
    return len(bits_by(numbers, way))


def read_step(bits, mark, room):
    """The mark behind the next number by "steps"."""
    at, ahead, beside = mark
    code, behind = read_own(bits, at)
    return behind, ahead + back(code), None


def read_turn(bits, mark, room):
    """The mark behind the next number by "turns": the last step is kept beside, 0 where there was none yet."""
    at, ahead, step = mark
    code, behind = read_own(bits, at)
    if step is None:
        return behind, back(code), 0
    return behind, ahead + step + back(code), step + back(code)


def read_run(bits, mark, room):
    """The mark behind the next number by "runs": how many more like it come is kept beside.

    A run mustn't be longer than the room, which is how many numbers may come yet.
    """
    at, ahead, more = mark
    if more is not None and more > 0:
        return at, ahead, more - 1
    code, middle = read_own(bits, at)
    more, behind = read_own(bits, middle)
    if more >= room:
        raise NoBits(middle)
    return behind, back(code), more


READERS = {"steps": read_step, "turns": read_turn, "runs": read_run}


def marks_by(way, bits, many):
    """The marks of bits by a way that is read from code to code; refused where they aren't of so many numbers."""
    reader = READERS[way]
    marks = []
    mark = BEGIN
    for place in range(many):
        if place % SPAN == 0:
            marks.append(mark)
        mark = reader(bits, mark, many - place)
    if mark[0] < len(bits):
        raise NoBits(mark[0])
    return marks


def check_codes(bits, at, width, many):
    """Refuse bits that don't hold, from a place on, just so many plain codes of a width."""
    end = at + width * many
    if end > len(bits):
        raise NoBits(at + (len(bits) - at) // width * width)
    if end < len(bits):
        raise NoBits(end)


def read_codes(bits, at, width, many):
    """The numbers of so many plain codes of a width, or of as many as are there whole."""
    if width == 0:
        return [0] * many
    end = min(at + width * many, len(bits) - width + 1)
    return [int(bits[place:place + width], 2) for place in range(at, end, width)]


def plain_head(bits, many):
    """What stands ahead of the codes by "plain": the place behind it, their width, the number that 0 stands for."""
    least, at = read_own(bits, 0)
    width, at = read_own(bits, at)
    check_codes(bits, at, width, many)
    return at, width, back(least)


def book_head(bits, many):
    """What stands ahead of the codes by "book": the place behind it, their width, the numbers in order."""
    last, at = read_own(bits, 0)
    least, at = read_own(bits, at)
    book = [back(least)]
    while len(book) <= last:
        gap, at = read_own(bits, at)
        book.append(book[-1] + gap + 1)
    width = last.bit_length()
    for place, code in enumerate(read_codes(bits, at, width, many)):
        if code > last:
            raise NoBits(at + place * width)
    check_codes(bits, at, width, many)
    return at, width, book


def guide_of(way, bits, many):
    """What a column needs to read its bits from the middle on; refused where they aren't of so many numbers."""
    if many < 1:
        if bits or many < 0:
            raise NoBits(0)
        return []
    if way == "plain":
        return plain_head(bits, many)
    if way == "book":
        return book_head(bits, many)
    return marks_by(way, bits, many)


class Column:
    """Whole numbers, many of them, written as bits by a way."""

    def __init__(self, way, bits, many):
        self.guide = guide_of(way, bits, many)
        self.way = way
        self.bits = bits
        self.many = many
        self.passed = 0

    def __eq__(self, other):
        return (
            isinstance(other, Column)
            and self.way == other.way
            and self.bits == other.bits
            and self.many == other.many
        )

    def __len__(self):
        return len(range(self.many))

    def unpacked(self):
        """All numbers."""
        numbers, passed = numbers_in(self, 0, self.many)
        return numbers

    def one(self, place):
        """The number at a place."""
        if not 0 <= place < self.many:
            raise NoPlace(place)
        return self.part(place, place + 1)[0]

    def part(self, start, end):
        """The numbers of the places from one on up to another one, not with it."""
        if not 0 <= start <= self.many:
            raise NoPlace(start)
        if not start <= end <= self.many:
            raise NoPlace(end)
        numbers, self.passed = numbers_in(self, start, end)
        return numbers

    def looked(self):
        """How many codes the last one or part went through beyond those of what it told."""
        return self.passed


def numbers_in(column, start, end):
    """The numbers of a part of a column, and how many codes of others were gone through."""
    if start == end:
        return [], 0
    if column.way in READERS:
        return walked_in(column, start, end)
    at, width, told = column.guide
    codes = read_codes(column.bits, at + start * width, width, end - start)
    if column.way == "book":
        return [told[code] for code in codes], 0
    return [told + code for code in codes], 0


def walked_in(column, start, end):
    """The numbers of a part of a column that is read from code to code, and how many codes of others were passed."""
    reader = READERS[column.way]
    mark = column.guide[start // SPAN]
    numbers = []
    passed = 0
    for place in range(start - start % SPAN, end):
        ahead = mark[0]
        mark = reader(column.bits, mark, column.many - place)
        if place >= start:
            numbers.append(mark[1])
        # The first told number may stand in a run that was read already: that one is of what is told.
        if place < start and mark[0] > ahead:
            passed += 1
        elif place == start and mark[0] == ahead and passed > 0:
            passed -= 1
    return numbers, passed


def pack(numbers, *, way=None):
    """The column of numbers by the way of fewest bits, of such the first, or by a told way."""
    chosen = min(WAYS, key=lambda told: size_by(numbers, told)) if way is None else way
    return Column(chosen, bits_by(numbers, chosen), len(numbers))


def read_column(way, bits, many):
    """The column of bits that were written by a way; refused where they aren't those of so many numbers."""
    return Column(way, bits, many)
