"""The chain told and the ring told.

Points stand here by their places in the rows of steps: 0 for the point -1, and event + 1. A list of
columns is for one goal: columns[k][p] is the tightest limit of chains from p to it of at most k steps.
"""

from driftclocks.limits import ZERO, add_limits, is_tighter


def first_column(size, goal):
    """The limits to the goal by no step."""
    column = [None] * size
    column[goal] = ZERO
    return column


def tightest_by(row, column):
    """The tightest limit by one step of the row and then the column's limit."""
    best = None
    for place, step in enumerate(row):
        whole = add_limits(step, column[place])
        if is_tighter(whole, best):
            best = whole
    return best


def next_column(rows, column):
    """The limits to the same goal by one step more."""
    return [tightest_by(row, column) for row in rows]


def fewest_steps(columns, point, most):
    """The least number of steps by which the limit from the point is as tight as by the most steps."""
    fewest = 0
    while columns[fewest][point] != columns[most][point]:
        fewest += 1
    return fewest


def next_point(row, columns, point, fewest):
    """The least other point by which the limit from the point comes about in the fewest steps."""
    for place, step in enumerate(row):
        if place != point and add_limits(step, columns[fewest - 1][place]) == columns[fewest][point]:
            return place
    return point


def find_way(rows, columns, point, most):
    """The way from the point to the goal of the columns by at most that many steps; there's a limit."""
    way = [point]
    fewest = fewest_steps(columns, point, most)
    while fewest > 0:
        point = next_point(rows[point], columns, point, fewest)
        way.append(point)
        fewest = fewest_steps(columns, point, fewest - 1)
    return way


def find_chain(rows, source, goal):
    """The chain told, empty if there's no limit; right where nothing contradicts."""
    columns = [first_column(len(rows), goal)]
    for fewer in range(len(rows)):
        columns.append(next_column(rows, columns[fewer]))
    if columns[len(rows)][source] is None:
        return []
    return find_way(rows, columns, source, len(rows))


def find_ring_start(rows, table, most):
    """The least first point of a ring by that many steps and one, and the least second; or None."""
    for first, row in enumerate(rows):
        for second, step in enumerate(row):
            if second != first and is_tighter(add_limits(step, table[first][most][second]), ZERO):
                return (first, second)
    return None


def find_ring(rows):
    """The ring told, empty if nothing contradicts."""
    table = [[first_column(len(rows), goal)] for goal in range(len(rows))]
    # A ring that shows a contradiction has one within it that comes to no point twice.
    for most in range(1, len(rows)):
        for columns in table:
            columns.append(next_column(rows, columns[most - 1]))
        start = find_ring_start(rows, table, most)
        if start is not None:
            way = find_way(rows, table[start[0]], start[1], most)
            return [start[0]] + way[:-1]
    return []
