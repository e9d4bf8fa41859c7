"""The calls that ask what follows from what's told."""

from driftclocks.facts import is_event
from driftclocks.limits import REACHED, ZERO, add_limits, close_limits, find_contradiction, limit_answer, negate_limit
from driftclocks.refusals import CONTRADICTS, NO_CALL, NOT_KNOWN, NOT_LET
from driftclocks.steps import ALL_TOLD, ORIGIN, find_known, find_steps
from driftclocks.ways import find_chain, find_ring

MOST_POINTS = 40

SURELY_LIVING = 0
EITHER = 1
SURELY_OVER = 2


class View:
    """What's known at an event, or all that's told: its steps and the limits between all points."""

    def __init__(self, told, asked):
        self.steps = find_steps(told, find_known(told, asked), [])
        self.limits = close_limits(self.steps.rows)

    def limit_between(self, source, goal):
        """The limit from a point to another one."""
        return self.limits[source + 1][goal + 1]


def refuse_view(view, events):
    """The refusal where an event isn't known or what's known contradicts, 0 if there's none."""
    for event in events:
        if not view.steps.is_known(event):
            return NOT_KNOWN
    if find_contradiction(view.limits):
        return CONTRADICTS
    return 0


def as_points(places):
    """The points of these places in the rows of steps."""
    return [place - 1 for place in places]


def answer_bounds(told, wholes, row):
    """5 bounds (g, e, f)."""
    view = View(told, wholes[0])
    refusal = refuse_view(view, wholes[1:])
    if refusal < 0:
        return [refusal]
    least = negate_limit(view.limit_between(wholes[2], wholes[1]))
    greatest = view.limit_between(wholes[1], wholes[2])
    return [0] + limit_answer(least, view.steps.scale) + limit_answer(greatest, view.steps.scale)


def answer_chain(told, wholes, row):
    """6 chain (g, e, f)."""
    view = View(told, wholes[0])
    refusal = refuse_view(view, wholes[1:])
    if refusal < 0:
        return [refusal]
    chain = find_chain(view.steps.rows, wholes[1] + 1, wholes[2] + 1)
    return [len(chain)] + as_points(chain)


def are_points(told, steps, points):
    """Whether these are as many points as are let, -1 or events that are known."""
    if len(points) < 1 or len(points) > MOST_POINTS:
        return False
    for point in points:
        if point != ORIGIN and not (is_event(told, point) and steps.is_known(point)):
            return False
    return True


def answer_shows(told, wholes, row):
    """7 shows (g ; points)."""
    steps = find_steps(told, find_known(told, wholes[0]), [])
    if not are_points(told, steps, row):
        return [NOT_LET]
    limit = ZERO
    for place in range(1, len(row)):
        limit = add_limits(limit, steps.rows[row[place - 1] + 1][row[place] + 1])
    return [0] + limit_answer(limit, steps.scale)


def answer_order(told, wholes, row):
    """8 order (g, e, f)."""
    view = View(told, wholes[0])
    refusal = refuse_view(view, wholes[1:])
    if refusal < 0:
        return [refusal]
    forth = view.limit_between(wholes[1], wholes[2])
    back = view.limit_between(wholes[2], wholes[1])
    answer = 0
    if forth is None or forth > ZERO:
        answer += 1
    if (forth is None or forth >= ZERO) and (back is None or back >= ZERO):
        answer += 2
    if back is None or back > ZERO:
        answer += 4
    return [answer]


def answer_clash(told, wholes, row):
    """9 clash (g)."""
    view = View(told, wholes[0])
    if not find_contradiction(view.limits):
        return [0]
    ring = find_ring(view.steps.rows)
    return [len(ring)] + as_points(ring)


def sets_of_nodes(size):
    """All sets of nodes, each rising: fewer first, of as many the one with the first lesser number."""
    sets = [[]]
    for node in range(size):
        sets = sets + [nodes + [node] for nodes in sets]
    return sorted(sets, key=lambda nodes: (len(nodes), nodes))


def contradicts_without(told, left_out):
    """Whether all that's told contradicts without the rates of these nodes."""
    steps = find_steps(told, find_known(told, ALL_TOLD), left_out)
    return find_contradiction(close_limits(steps.rows))


def answer_liars(told, wholes, row):
    """10 liars ()."""
    for nodes in sets_of_nodes(len(told.nodes)):
        if not contradicts_without(told, nodes):
            return [len(nodes)] + nodes
    return [CONTRADICTS]


def judge_life(least, greatest, life):
    """Whether a life is over by the bounds of the age; all three in parts of one scale."""
    if least is not None and least[0] >= life:
        return SURELY_OVER
    if greatest is not None and greatest < (life, REACHED):
        return SURELY_LIVING
    return EITHER


def answer_life(told, wholes, row):
    """11 life (g, p, f)."""
    view = View(told, wholes[0])
    parcel = told.parcels[wholes[1]]
    refusal = refuse_view(view, [parcel.event, wholes[2]])
    if refusal < 0:
        return [refusal]
    least = negate_limit(view.limit_between(wholes[2], parcel.event))
    greatest = view.limit_between(parcel.event, wholes[2])
    return [judge_life(least, greatest, parcel.life * view.steps.scale)]


# By the numbers of the calls, from 5 on.
QUESTIONS = (
    answer_bounds,
    answer_chain,
    answer_shows,
    answer_order,
    answer_clash,
    answer_liars,
    answer_life,
)
FIRST_QUESTION = 5


def answer_question(told, call):
    """What a call that asks answers; NO_CALL where there's none of that number."""
    place = call.number - FIRST_QUESTION
    if place >= len(QUESTIONS):
        return [NO_CALL]
    return QUESTIONS[place](told, call.wholes, call.row)
