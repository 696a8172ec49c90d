"""Blocks: rows of several series, told and written as columns of bits."""

from timegranary.checks import check, with_check
from timegranary.columns import WAYS, pack, read_column
from timegranary.errors import NoBits, NoBlock
from timegranary.wholes import read_figures

MOST_FIGURES = 40
NO_BITS = "-"
# A series has a line of its own and one for each of its four columns.
SERIES_LINES = 5


def column_line(column):
    """The line of a column."""
    return with_check(f"{column.way} {column.many} {column.bits or NO_BITS}")


class Block:
    """Rows of series, by their places."""

    def __init__(self, rows, *, weight=None):
        self.kept = {place: tuple(rows[place]) for place in sorted(rows)}
        self.weight = len(self) if weight is None else weight

    def __eq__(self, other):
        return isinstance(other, Block) and self.kept == other.kept and self.weight == other.weight

    def __len__(self):
        return len([row for rows in self.kept.values() for row in rows])

    def places(self):
        """The series' places, rising."""
        return list(self.kept)

    def columns_of(self, place):
        """The columns of a series: times, numbers, whether there is a worth, worths."""
        rows = self.kept[place]
        times = [time for time, number, worth in rows]
        numbers = [number for time, number, worth in rows]
        there = [0 if worth is None else 1 for time, number, worth in rows]
        worths = [worth for time, number, worth in rows if worth is not None]
        return pack(times), pack(numbers), pack(there), pack(worths)

    def rows_at(self, place):
        """All rows of a series, none where it isn't among the block's."""
        return list(self.kept.get(place, ()))

    def rows_in(self, place, start, end):
        """The rows of a series in a stretch."""
        return [row for row in self.rows_at(place) if start <= row[0] < end]

    def extents(self):
        """The least and the greatest time, the least and the greatest number, None without rows."""
        times = [row[0] for rows in self.kept.values() for row in rows]
        numbers = [row[1] for rows in self.kept.values() for row in rows]
        if not times:
            return None
        return min(times), max(times), min(numbers), max(numbers)

    def text(self):
        """The block as lines, by which read_block makes it again."""
        lines = [with_check(f"block {self.weight} {len(self.kept)}")]
        for place, rows in self.kept.items():
            lines.append(with_check(f"series {place} {len(rows)}"))
            lines.extend([column_line(column) for column in self.columns_of(place)])
        return "\n".join(lines)


def words_of(line):
    """The three words of a line whose check is right, else None."""
    ahead, blank, told = line.rpartition(" ")
    words = ahead.split(" ")
    if told != str(check(ahead)) or len(words) != 3:
        return None
    return words


def read_two(line, word):
    """The two numbers behind a word in a line, None where the line isn't so written."""
    words = words_of(line)
    if words is None or words[0] != word:
        return None
    one = read_figures(words[1], MOST_FIGURES)
    two = read_figures(words[2], MOST_FIGURES)
    return None if one is None or two is None else (one, two)


def read_column_line(line):
    """The way, bits and many of a column's line, None where the line isn't so written."""
    words = words_of(line)
    if words is None or words[0] not in WAYS:
        return None
    way, figures, signs = words
    many = read_figures(figures, MOST_FIGURES)
    if many is None:
        return None
    if signs == NO_BITS:
        return way, "", many
    if signs == "" or not all([sign in "01" for sign in signs]):
        return None
    return way, signs, many


def line_at(lines, at):
    """The line at a place, a text that is no line of a block where it is lacking."""
    return lines[at] if at < len(lines) else ""


def read_series(lines, at, ahead):
    """The place, how many rows, and the columns' ways, bits and many of the series whose line stands at a place.

    It is refused by the first line that is wrong; the place has to be above the one ahead.
    """
    told = read_two(line_at(lines, at), "series")
    if told is None or told[0] <= ahead:
        raise NoBlock(at)
    columns = []
    for column_at in range(at + 1, at + SERIES_LINES):
        column = read_column_line(line_at(lines, column_at))
        if column is None:
            raise NoBlock(column_at)
        columns.append(column)
    return told[0], told[1], columns


def read_lines(lines):
    """The weight of a block and what read_series tells of each of its series; refused by the first wrong line."""
    head = read_two(lines[0], "block")
    if head is None:
        raise NoBlock(0)
    weight, many = head
    series = []
    at = 1
    ahead = -1
    while len(series) < many:
        told = read_series(lines, at, ahead)
        series.append(told)
        ahead = told[0]
        at += SERIES_LINES
    if at < len(lines):
        raise NoBlock(at)
    return weight, series


def unpacked_columns(columns):
    """The numbers of each column, None where the bits of one aren't those of so many numbers."""
    try:
        return [read_column(way, bits, many).unpacked() for way, bits, many in columns]
    except NoBits:
        return None


def fitting_rows(many, columns):
    """The rows of a series, so many, by its columns; None where these don't fit."""
    lengths = [length for way, bits, length in columns]
    # Each row but the first has another time or number than the one ahead, which takes a bit or more. Looked at first,
    # this and the lengths keep a text of a few signs from being read to ever so many numbers.
    most = 1 + len(columns[0][1]) + len(columns[1][1])
    if not 0 < many <= most or lengths[:3] != [many, many, many] or lengths[3] > many:
        return None
    numbers = unpacked_columns(columns)
    if numbers is None:
        return None
    times, own_numbers, there, worths = numbers
    if not all([flag in (0, 1) for flag in there]) or sum(there) != len(worths):
        return None
    keys = list(zip(times, own_numbers))
    if keys != sorted(set(keys)):
        return None
    return rows_by(keys, there, worths)


def rows_by(keys, there, worths):
    """The rows of times and numbers, with the next worth where there is one."""
    rows = []
    used = 0
    for (time, number), flag in zip(keys, there):
        rows.append((time, number, worths[used] if flag == 1 else None))
        used += flag
    return rows


def read_block(text):
    """The block of a text; refused by the first wrong line, else by the first series whose columns don't fit."""
    weight, series = read_lines(text.split("\n"))
    rows_by_place = {}
    for at, (place, many, columns) in enumerate(series):
        rows = fitting_rows(many, columns)
        if rows is None:
            raise NoBlock(1 + at * SERIES_LINES)
        rows_by_place[place] = rows
    return Block(rows_by_place, weight=weight)
