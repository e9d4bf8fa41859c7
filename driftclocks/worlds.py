"""The world told, what clocks show exactly in it, and the calls that ask for these."""

from driftclocks.grammar import read_fraction
from driftclocks.limits import REACHED
from driftclocks.ratios import fraction_answer
from driftclocks.refusals import NOT_KNOWN, NOT_LET
from driftclocks.steps import finer_steps
from driftclocks.views import View, refuse_view, view_at

# Each event's moment may halve the parts once more, and there are at most 20 events: this is 2 ** 20.
HALVINGS = 1048576


class World:
    """The world told: moments[u + 1] is that of point u, in parts of the scale."""

    def __init__(self, scale):
        self.scale = scale
        self.moments = [0]

    def moment_of(self, event):
        """An event's moment."""
        return self.moments[event + 1]


def choose_moment(earliest, latest, unit):
    """The moment between those that it isn't before and those that it isn't behind."""
    if len(earliest) == 0 and len(latest) == 0:
        return 0
    if len(latest) == 0:
        return max(earliest) + unit
    if len(earliest) == 0:
        return min(latest) - unit
    return (max(earliest) + min(latest)) // 2


def find_moment(world, view, event):
    """The moment of an event in a world in which just the points before it have theirs."""
    earliest = []
    latest = []
    for place, moment in enumerate(world.moments):
        backward = view.limit_between(event, place - 1)
        onward = view.limit_between(place - 1, event)
        if backward is not None:
            earliest.append(moment - backward[0] * HALVINGS)
        if onward is not None:
            latest.append(moment + onward[0] * HALVINGS)
    return choose_moment(earliest, latest, world.scale)


def find_world(view):
    """The world told of a view that doesn't contradict."""
    world = World(view.steps.scale * HALVINGS)
    # Events that aren't known have no limits to others, so that theirs may stand here too.
    for event in range(len(view.steps.known)):
        world.moments.append(find_moment(world, view, event))
    return world


def world_answer(view):
    """The known events, each with its moment in the world told, as a call answers them."""
    world = find_world(view)
    answer = []
    for event, known in enumerate(view.steps.known):
        if known:
            answer.append(event)
            answer.extend(fraction_answer(world.moment_of(event), world.scale))
    return answer


def answer_world(told, wholes, row):
    """15 world (g)."""
    view = view_at(told, wholes[0])
    refusal = refuse_view(view, [])
    if refusal < 0:
        return [refusal]
    return [0] + world_answer(view)


def pin_steps(steps, source, goal, fraction):
    """The steps, and those besides by which the goal is later than the source by just the fraction."""
    pinned = finer_steps(steps, fraction[1])
    number = fraction[0] * steps.scale
    pinned.tighten(source, goal, (number, REACHED))
    pinned.tighten(goal, source, (0 - number, REACHED))
    return pinned


def answer_pinned(told, wholes, row):
    """16 pinned (g, e, f; text)."""
    view = view_at(told, wholes[0])
    refusal = refuse_view(view, wholes[1:])
    fraction = read_fraction(row)
    if fraction is None and refusal != NOT_KNOWN:
        return [NOT_LET]
    if refusal < 0:
        return [refusal]
    pinned = View(pin_steps(view.steps, wholes[1], wholes[2], fraction))
    if pinned.contradicts():
        return [0]
    return [1] + world_answer(pinned)


def is_of_run(event, other):
    """Whether both events are of one run."""
    return event.node == other.node and event.run == other.run


def clock_answer(told, view, number):
    """What the clock of an event shows exactly in the world told, as a call answers it."""
    world = find_world(view)
    event = told.events[number]
    lowest = told.nodes[event.node].lowest
    highest = told.nodes[event.node].highest
    # In parts of this scale both rates times a difference of moments are whole numbers.
    scale = world.scale * lowest[1] * highest[1]
    values = []
    for place, other in enumerate(told.events):
        if view.steps.is_known(place) and is_of_run(event, other):
            age = world.moment_of(number) - world.moment_of(place)
            grown = age * (lowest[0] * highest[1] if place <= number else highest[0] * lowest[1])
            values.append(other.reading * scale + grown)
    return fraction_answer(max(values), scale)


def answer_clock(told, wholes, row):
    """17 clock (g, e)."""
    view = view_at(told, wholes[0])
    refusal = refuse_view(view, wholes[1:])
    if refusal < 0:
        return [refusal]
    return [0] + clock_answer(told, view, wholes[1])


# By the numbers of the calls, from the first one on.
WORLDS = (answer_world, answer_pinned, answer_clock)
FIRST_OF_WORLDS = 15


def answer_of_world(told, call):
    """What a call of this file answers."""
    return WORLDS[call.number - FIRST_OF_WORLDS](told, call.wholes, call.row)
