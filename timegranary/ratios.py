"""Numbers that are tuples (top, bottom) in lowest terms, the bottom above 0."""

from timegranary.folds import lowest
from timegranary.wholes import greatest_common, is_whole


def is_ratio(thing):
    """Whether a thing is such a number."""
    if not isinstance(thing, tuple) or len(thing) != 2 or not all([is_whole(part) for part in thing]):
        return False
    return thing[1] > 0 and lowest(thing[0], thing[1]) == thing


def negative(one):
    """Nought less a number."""
    return -one[0], one[1]


def plus(one, two):
    """The sum of two numbers."""
    return lowest(one[0] * two[1] + two[0] * one[1], one[1] * two[1])


def minus(one, two):
    """One number, another one taken off."""
    return plus(one, negative(two))


def times(one, two):
    """One number times another one."""
    return lowest(one[0] * two[0], one[1] * two[1])


def over(one, two):
    """One number by another one, None by nought."""
    if two[0] == 0:
        return None
    if two[0] < 0:
        return lowest(-one[0] * two[1], -one[1] * two[0])
    return lowest(one[0] * two[1], one[1] * two[0])


def is_above(one, two):
    """Whether one number is greater than another one."""
    return one[0] * two[1] > two[0] * one[1]


def greater(one, two):
    """The greater of two numbers."""
    return one if is_above(one, two) else two


def lesser(one, two):
    """The lesser of two numbers."""
    return two if is_above(one, two) else one


def scaled(numbers):
    """Whole numbers that stand to one another as the numbers do."""
    common = 1
    for top, bottom in numbers:
        common = common * bottom // greatest_common(common, bottom)
    return [top * (common // bottom) for top, bottom in numbers]


# What the words of asks do with two numbers.
SIGNS = {"plus": plus, "minus": minus, "times": times, "over": over}
