"""The calls that ask of bounds, chains, contradictions and lives."""

from driftclocks.facts import is_event
from driftclocks.limits import ZERO, add_limits, limit_answer
from driftclocks.refusals import CONTRADICTS, NOT_LET
from driftclocks.steps import ALL_TOLD, ORIGIN, find_known, find_steps
from driftclocks.views import View, bounds_answer, judge_life, refuse_view, view_at
from driftclocks.ways import find_chain, find_ring

MOST_POINTS = 40


def as_points(places):
    """The points of these places in the rows of steps."""
    return [place - 1 for place in places]


def answer_bounds(told, wholes, row):
    """5 bounds (g, e, f)."""
    view = view_at(told, wholes[0])
    refusal = refuse_view(view, wholes[1:])
    if refusal < 0:
        return [refusal]
    return [0] + bounds_answer(view.bounds_between(wholes[1], wholes[2]), view.steps.scale)


def answer_chain(told, wholes, row):
    """6 chain (g, e, f)."""
    view = view_at(told, wholes[0])
    refusal = refuse_view(view, wholes[1:])
    if refusal < 0:
        return [refusal]
    chain = find_chain(view.steps.rows, wholes[1] + 1, wholes[2] + 1)
    return [len(chain)] + as_points(chain)


def are_points(told, steps, points):
    """Whether these are as many points as are let, -1 or events that are known."""
    if len(points) < 1 or len(points) > MOST_POINTS:
        return False
    for point in points:
        if point != ORIGIN and not (is_event(told, point) and steps.is_known(point)):
            return False
    return True


def answer_shows(told, wholes, row):
    """7 shows (g ; points)."""
    steps = find_steps(told, find_known(told, wholes[0]), [])
    if not are_points(told, steps, row):
        return [NOT_LET]
    limit = ZERO
    for place in range(1, len(row)):
        limit = add_limits(limit, steps.rows[row[place - 1] + 1][row[place] + 1])
    return [0] + limit_answer(limit, steps.scale)


def answer_order(told, wholes, row):
    """8 order (g, e, f)."""
    view = view_at(told, wholes[0])
    refusal = refuse_view(view, wholes[1:])
    if refusal < 0:
        return [refusal]
    forth = view.limit_between(wholes[1], wholes[2])
    back = view.limit_between(wholes[2], wholes[1])
    answer = 0
    if forth is None or forth > ZERO:
        answer += 1
    if (forth is None or forth >= ZERO) and (back is None or back >= ZERO):
        answer += 2
    if back is None or back > ZERO:
        answer += 4
    return [answer]


def answer_clash(told, wholes, row):
    """9 clash (g)."""
    view = view_at(told, wholes[0])
    if not view.contradicts():
        return [0]
    ring = find_ring(view.steps.rows)
    return [len(ring)] + as_points(ring)


def sets_of_nodes(size):
    """All sets of nodes, each rising: fewer first, of as many the one with the first lesser number."""
    sets = [[]]
    for node in range(size):
        sets = sets + [nodes + [node] for nodes in sets]
    return sorted(sets, key=lambda nodes: (len(nodes), nodes))


def contradicts_without(told, left_out):
    """Whether all that's told contradicts without the rates of these nodes."""
    return View(find_steps(told, find_known(told, ALL_TOLD), left_out)).contradicts()


def answer_liars(told, wholes, row):
    """10 liars ()."""
    for nodes in sets_of_nodes(len(told.nodes)):
        if not contradicts_without(told, nodes):
            return [len(nodes)] + nodes
    return [CONTRADICTS]


def answer_life(told, wholes, row):
    """11 life (g, p, f)."""
    view = view_at(told, wholes[0])
    parcel = told.parcels[wholes[1]]
    refusal = refuse_view(view, [parcel.event, wholes[2]])
    if refusal < 0:
        return [refusal]
    return [judge_life(view.bounds_between(parcel.event, wholes[2]), parcel.life * view.steps.scale)]


# By the numbers of the calls, from the first one on.
QUESTIONS = (
    answer_bounds,
    answer_chain,
    answer_shows,
    answer_order,
    answer_clash,
    answer_liars,
    answer_life,
)
FIRST_QUESTION = 5


def answer_question(told, call):
    """What a call of this file answers."""
    return QUESTIONS[call.number - FIRST_QUESTION](told, call.wholes, call.row)
