"""The log: numbered lines of deeds, which can be read again wherever they were cut off."""

from timegranary.checks import with_check
from timegranary.errors import NoBody, NoLog
from timegranary.wholes import read_figures

ENDS = "."
GOES = "+"
MARKS = "="
MOST_FIGURES = 12


def is_body(text):
    """Whether a text has just signs that a line may have."""
    return all([" " <= sign <= "~" for sign in text])


def line_of(number, body, *, sign=ENDS):
    """The line of a number, a body and a sign."""
    if not is_body(body):
        raise NoBody(body)
    return with_check(f"{number}{sign} {len(str(number)) + len(body)} {body}")


def parts_of_line(line):
    """The number, sign and body of a line, None where the text is none."""
    head, blank, behind = line.partition(" ")
    count, blank, tail = behind.partition(" ")
    body, blank, told = tail.rpartition(" ")
    number = read_figures(head[:-1], MOST_FIGURES)
    sign = head[-1:]
    if number is None or sign not in (ENDS, GOES, MARKS) or not is_body(body):
        return None
    # What was left out above, the count and the check among it, is as it has to be where the same line is made again.
    if line != line_of(number, body, sign=sign):
        return None
    return number, sign, body


def read_line(line):
    """The number, sign and body of a line."""
    parts = parts_of_line(line)
    if parts is None:
        raise NoLog(0)
    return parts


class Log:
    """Lines, and the number of the last one."""

    def __init__(self):
        self.number = 0
        self.kept = []
        # The place of the last mark, 0 where there is none: a trimmed log begins there.
        self.begin = 0

    def __eq__(self, other):
        return isinstance(other, Log) and self.kept == other.kept

    def __len__(self):
        return len(self.kept)

    def write(self, body):
        """Put the line of a body behind the others, and tell it."""
        line = line_of(self.number + 1, body)
        self.kept.append(line)
        self.number += 1
        return line

    def bundle(self, bodies):
        """Put the lines of bodies, one deed, behind the others, and tell them."""
        told = list(bodies)
        signs = [GOES] * (len(told) - 1) + [ENDS]
        lines = [
            line_of(number, body, sign=sign)
            for number, (body, sign) in enumerate(zip(told, signs), start=self.number + 1)
        ]
        self.kept.extend(lines)
        self.number += len(lines)
        return lines

    def mark(self, body):
        """Put a mark with a body behind the lines, and tell its line."""
        line = line_of(self.number, body, sign=MARKS)
        self.begin = len(self.kept)
        self.kept.append(line)
        return line

    def lines(self):
        """The lines in order."""
        return list(self.kept)

    def text(self):
        """The lines, with a line end behind each."""
        return "".join([f"{line}\n" for line in self.kept])

    def trimmed(self):
        """A new log that begins with the last mark, where there is one, and goes on alike."""
        return log_with(self.kept[self.begin:], self.number, 0)


def log_with(lines, number, begin):
    """The log with lines, the number of the last one, and the place of the last mark or 0."""
    log = Log()
    log.kept = list(lines)
    log.number = number
    log.begin = begin
    return log


def may_follow(parts, ahead):
    """Whether a line may stand behind the one ahead, both told by their parts (None: it is the first)."""
    number, sign, body = parts
    if sign == MARKS:
        return ahead is None or (number == ahead[0] and ahead[1] != GOES)
    return number == (1 if ahead is None else ahead[0] + 1)


def parts_of_lines(lines):
    """The parts of each line of a log; refused at the first that is none or may not stand there."""
    told = []
    ahead = None
    for at, line in enumerate(lines):
        parts = parts_of_line(line)
        if parts is None or not may_follow(parts, ahead):
            raise NoLog(at)
        told.append(parts)
        ahead = parts
    return told


def whole_length(told):
    """How many of the lines, told by their parts, belong to deeds that are whole."""
    length = len(told)
    while length > 0 and told[length - 1][1] == GOES:
        length -= 1
    return length


def read_log(text):
    """The log of a text, the body of its last mark, the bodies behind that, and the rest of the text."""
    lines = text.split("\n")
    told = parts_of_lines(lines[:-1])
    many = whole_length(told)
    number = told[many - 1][0] if many > 0 else 0
    marks = [at for at, parts in enumerate(told[:many]) if parts[1] == MARKS]
    begin = marks[-1] if marks else 0
    mark = told[begin][2] if marks else None
    bodies = [body for own_number, sign, body in told[begin:many] if sign != MARKS]
    return log_with(lines[:many], number, begin), mark, bodies, "\n".join(lines[many:])
