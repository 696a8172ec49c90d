"""Whole numbers, and their figures in texts."""

FIGURES = "0123456789"


def is_whole(thing):
    """Whether a thing is a whole number: an int that is no truth."""
    return isinstance(thing, int) and not isinstance(thing, bool)


def read_figures(text, most):
    """The number that a text writes in at most so many figures, without a needless 0; None where it writes none."""
    if not 0 < len(text) <= most or not all([sign in FIGURES for sign in text]):
        return None
    if text[0] == "0" and text != "0":
        return None
    return int(text)


def read_whole(text, most):
    """The number, also below 0, that a text writes in at most so many figures; None where it writes none."""
    if not text.startswith("-"):
        return read_figures(text, most)
    number = read_figures(text[1:], most)
    # There is no -0.
    return -number if number else None


def greatest_common(one, two):
    """The greatest number that goes into two numbers from 0 on, not both 0."""
    while two > 0:
        one, two = two, one % two
    return one
