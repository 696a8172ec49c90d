"""The widths of grains."""

from timegranary.errors import NoGrain
from timegranary.wholes import is_whole

MOST_WIDTHS = 4


def check_widths(widths):
    """Refuse widths that aren't one to four, from 1 on, each a greater multiple of the one ahead."""
    if len(widths) == 0:
        raise NoGrain(0)
    for at, width in enumerate(widths):
        if at == MOST_WIDTHS or not is_whole(width) or width < 1:
            raise NoGrain(at)
        if at > 0 and (width == widths[at - 1] or width % widths[at - 1] > 0):
            raise NoGrain(at)


def check_width(widths, width):
    """Refuse a width that is none of the widths."""
    if width not in widths:
        raise NoGrain(width)
