"""Cells of time, and lists of stretches of it."""


def cell_of(time, width):
    """The start of the cell of this width that the time is in."""
    return time - time % width


def cells(start, end, width):
    """The starts of the cells that lie wholly in the stretch, rising."""
    first = cell_of(start + width - 1, width)
    return list(range(first, end - width + 1, width))


def tidy(stretches):
    """The tidy list of just the times of the stretches."""
    out = []
    for start, end in sorted([stretch for stretch in stretches if stretch[0] < stretch[1]]):
        if out and start <= out[-1][1]:
            out[-1] = (out[-1][0], max(out[-1][1], end))
        else:
            out.append((start, end))
    return out


def joined(one, two):
    """The tidy list of the times in one of two tidy lists or both."""
    return tidy(list(one) + list(two))


def met(one, two):
    """The tidy list of the times in both of two tidy lists."""
    out = []
    left = 0
    right = 0
    while left < len(one) and right < len(two):
        start = max(one[left][0], two[right][0])
        end = min(one[left][1], two[right][1])
        if start < end:
            out.append((start, end))
        # The stretch that ends first can't meet a later one any more.
        if one[left][1] < two[right][1]:
            left += 1
        else:
            right += 1
    return out


def less(one, two):
    """The tidy list of the times in the first of two tidy lists alone."""
    if not one:
        return []
    return met(one, gaps(two, one[0][0], one[-1][1]))


def gaps(stretches, low, high):
    """A tidy list that has, of the times from low up to high, just those outside of the stretches.

    It may go on beyond low and high: that saves cutting it off there.
    """
    starts = [low] + [end for start, end in stretches]
    ends = [start for start, end in stretches] + [high]
    return [(start, end) for start, end in zip(starts, ends) if start < end]
