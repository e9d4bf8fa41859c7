"""Limits of differences of true moments.

A limit is a pair: a whole number of parts of one scale, and REACHED or NOT_REACHED. So a tighter
limit is a lesser pair. None stands where there's no limit.
"""

from driftclocks.ratios import fraction_answer

REACHED = 0
NOT_REACHED = -1
ZERO = (0, 0)


def add_limits(first, second):
    """The limit that both come to, added."""
    if first is None or second is None:
        return None
    return (first[0] + second[0], min(first[1], second[1]))


def negate_limit(limit):
    """0 less the limit; it's reached as the limit is."""
    if limit is None:
        return None
    return (0 - limit[0], limit[1])


def is_tighter(first, second):
    """Whether the first is a limit, and tighter than the second or the second is none."""
    if first is None:
        return False
    return second is None or first < second


def tighter_limit(first, second):
    """The tighter one of both; None if both are none."""
    return first if is_tighter(first, second) else second


def finer_limit(limit, factor):
    """The same limit in parts of a scale of that many times as many parts."""
    if limit is None:
        return None
    return (limit[0] * factor, limit[1])


def limit_answer(limit, scale):
    """The limit as a call answers it."""
    if limit is None:
        return [0]
    return [1 if limit[1] == REACHED else 2] + fraction_answer(limit[0], scale)


def tighten_row(row, first, onward):
    """Tightens the limits of a row by chains whose first part is that limit, and that go onward from there."""
    for place, second in enumerate(onward):
        whole = add_limits(first, second)
        if is_tighter(whole, row[place]):
            row[place] = whole


def close_limits(rows):
    """The limits between all points, from the steps; right where nothing contradicts.

    Where something contradicts, the limit of some point to itself is tighter than 0.
    """
    limits = [list(row) for row in rows]
    for middle in range(len(limits)):
        onward = list(limits[middle])
        for row in limits:
            if row[middle] is not None:
                tighten_row(row, row[middle], onward)
    return limits


def find_contradiction(limits):
    """Whether the limits between all points show that something contradicts."""
    for point in range(len(limits)):
        if is_tighter(limits[point][point], ZERO):
            return True
    return False
