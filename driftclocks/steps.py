"""What's known at an event, and the steps between what's known."""

from driftclocks.grammar import NO_MOST
from driftclocks.limits import NOT_REACHED, REACHED, ZERO, finer_limit, is_tighter
from driftclocks.ratios import common_multiple

# The point that stands for moment 0; as g it stands for all that's told.
ORIGIN = -1
ALL_TOLD = -1


class Steps:
    """The tightest steps: rows[u + 1][v + 1] is that from point u to point v, in parts of the scale."""

    def __init__(self, scale, known):
        self.scale = scale
        self.known = known
        self.rows = [[None] * (len(known) + 1) for event in range(len(known) + 1)]
        for place in range(len(known) + 1):
            self.rows[place][place] = ZERO

    def is_known(self, point):
        """Whether steps from and to the point count."""
        return point == ORIGIN or self.known[point]

    def tighten(self, source, goal, limit):
        """Puts a step in, if it counts and is tighter than the one there."""
        if not self.is_known(source) or not self.is_known(goal):
            return
        if is_tighter(limit, self.rows[source + 1][goal + 1]):
            self.rows[source + 1][goal + 1] = limit


def events_before(told, event):
    """The events that are known since this one is: earlier ones of its node, and those of words to it."""
    node = told.events[event].node
    before = [earlier for earlier in range(event) if told.events[earlier].node == node]
    return before + [word.source for word in told.words if word.goal == event]


def find_known(told, asked):
    """For each event whether it's known at the asked one."""
    if asked == ALL_TOLD:
        return [True] * len(told.events)
    known = [False] * len(told.events)
    waiting = [asked]
    while len(waiting) > 0:
        event = waiting.pop()
        if not known[event]:
            known[event] = True
            waiting.extend(events_before(told, event))
    return known


def find_scale(nodes):
    """A number of parts such that all steps are whole numbers of them."""
    scale = 1
    for node in nodes:
        scale = common_multiple(scale, node.lowest[0])
        scale = common_multiple(scale, node.highest[0])
    return scale


def divide_by_rate(number, rate, scale):
    """The number over the rate, in parts of the scale."""
    return number * rate[1] * (scale // rate[0])


def onward_step(node, gap, scale):
    """The step by the lowest rate to a later event of one run that shows so much more."""
    return (divide_by_rate(gap + 1, node.lowest, scale), NOT_REACHED)


def backward_step(node, gap, scale):
    """The step by the highest rate from such an event back to the earlier one."""
    return (divide_by_rate(1 - gap, node.highest, scale), NOT_REACHED)


def add_clock_steps(steps, node, earlier, later, gap):
    """Puts in the steps by the rates of two events of one run; gap is how much more the later one shows."""
    steps.tighten(earlier, later, onward_step(node, gap, steps.scale))
    steps.tighten(later, earlier, backward_step(node, gap, steps.scale))


def add_node_steps(steps, told, left_out):
    """Puts in the steps between events of one node; those by rates not for the nodes that are left out."""
    for later, second in enumerate(told.events):
        for earlier in range(later):
            first = told.events[earlier]
            if first.node != second.node:
                continue
            steps.tighten(later, earlier, ZERO)
            if first.run == second.run and first.node not in left_out:
                gap = second.reading - first.reading
                add_clock_steps(steps, told.nodes[first.node], earlier, later, gap)


def add_span(steps, source, goal, least, greatest):
    """Puts in that the goal is later than the source by at least the one, and at most the other if there's one."""
    if greatest != NO_MOST:
        steps.tighten(source, goal, (greatest * steps.scale, REACHED))
    steps.tighten(goal, source, (0 - least * steps.scale, REACHED))


def add_spans(steps, words, moments):
    """Puts in the steps of these words and moments."""
    for word in words:
        add_span(steps, word.source, word.goal, word.least, word.greatest)
    for moment in moments:
        add_span(steps, ORIGIN, moment.event, moment.first, moment.latest)


def find_steps(told, known, left_out):
    """The steps that count between what's known, without the rates of the nodes that are left out."""
    steps = Steps(find_scale(told.nodes), known)
    add_node_steps(steps, told, left_out)
    add_spans(steps, told.words, told.moments)
    return steps


def steps_with(told, words, moments):
    """The steps of all that's told, with just these of the words and moments."""
    steps = Steps(find_scale(told.nodes), find_known(told, ALL_TOLD))
    add_node_steps(steps, told, [])
    add_spans(steps, words, moments)
    return steps


def finer_steps(steps, factor):
    """The same steps in parts of a scale of that many times as many parts."""
    finer = Steps(steps.scale * factor, steps.known)
    finer.rows = [[finer_limit(limit, factor) for limit in row] for row in steps.rows]
    return finer
