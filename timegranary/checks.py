"""The check of a line, by which a line that was damaged is known."""

CHECK_REST = 999983


def check(line):
    """The sum of each sign's place, from 1, times its number, by rest."""
    return sum([place * ord(sign) for place, sign in enumerate(line, start=1)]) % CHECK_REST


def with_check(line):
    """A line, a blank and its check."""
    return f"{line} {check(line)}"
