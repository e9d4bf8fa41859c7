"""What follows from the steps that count: the limits between all points, and what they say of lives."""

from driftclocks.limits import REACHED, close_limits, find_contradiction, limit_answer, negate_limit
from driftclocks.refusals import CONTRADICTS, NOT_KNOWN
from driftclocks.steps import find_known, find_steps

SURELY_LIVING = 0
EITHER = 1
SURELY_OVER = 2


class View:
    """Steps, and the limits between all points that they come to."""

    def __init__(self, steps):
        self.steps = steps
        self.limits = close_limits(steps.rows)

    def limit_between(self, source, goal):
        """The limit from a point to another one."""
        return self.limits[source + 1][goal + 1]

    def bounds_between(self, source, goal):
        """The least and the greatest that the goal can be later than the source."""
        return (negate_limit(self.limit_between(goal, source)), self.limit_between(source, goal))

    def contradicts(self):
        """Whether the steps contradict."""
        return find_contradiction(self.limits)


def view_at(told, asked):
    """The view of what's known at an event, or of all that's told."""
    return View(find_steps(told, find_known(told, asked), []))


def refuse_view(view, events):
    """The refusal where an event isn't known or what's known contradicts, 0 if there's none."""
    for event in events:
        if not view.steps.is_known(event):
            return NOT_KNOWN
    if view.contradicts():
        return CONTRADICTS
    return 0


def bounds_answer(bounds, scale):
    """The bounds as a call answers them."""
    return limit_answer(bounds[0], scale) + limit_answer(bounds[1], scale)


def judge_life(bounds, life):
    """Whether a life is over by the bounds of the age; all in parts of one scale."""
    if bounds[0] is not None and bounds[0][0] >= life:
        return SURELY_OVER
    if bounds[1] is not None and bounds[1] < (life, REACHED):
        return SURELY_LIVING
    return EITHER
