"""Rows: points with the numbers of the deeds that put them or took them out."""


def last_worths(rows, number):
    """By each time, rising, the worth or None of its last row whose number isn't above the told one."""
    worths = {}
    for time, own_number, worth in rows:
        if own_number <= number:
            worths[time] = worth
    return worths


def known(rows, number):
    """The points known at a number, by rising times."""
    return [(time, worth) for time, worth in last_worths(rows, number).items() if worth is not None]


def changes(rows, one, two):
    """Where the points known at two numbers differ: time, worth at the first, worth at the second."""
    ahead = last_worths(rows, one)
    behind = last_worths(rows, two)
    # Each time that is known at the lesser number is known at the greater one.
    times = list(last_worths(rows, max(one, two)))
    return [(time, ahead.get(time), behind.get(time)) for time in times if ahead.get(time) != behind.get(time)]


def needed_flags(rows, number):
    """For each row whether something known at the number or a greater one needs it."""
    last_numbers = {}
    for time, own_number, worth in rows:
        if own_number <= number:
            last_numbers[time] = own_number
    return [
        own_number > number or (last_numbers[time] == own_number and worth is not None)
        for time, own_number, worth in rows
    ]


def needless(rows, number):
    """The rows that nothing known at the number or a greater one needs, in order."""
    return [row for row, needed in zip(rows, needed_flags(rows, number)) if not needed]


def thinned(rows, number):
    """The rows without those that are needless at the number, in order."""
    return [row for row, needed in zip(rows, needed_flags(rows, number)) if needed]


def poured(one, two):
    """The rows of two lists, each once, in order."""
    rows = {(row[0], row[1]): row for row in [*one, *two]}
    return [rows[key] for key in sorted(rows)]
