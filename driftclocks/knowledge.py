"""The calls that ask what's known, what of it is needless, and what could be."""

from driftclocks.limits import ZERO
from driftclocks.refusals import CONTRADICTS
from driftclocks.steps import ALL_TOLD, add_clock_steps, find_known, onward_step, steps_with
from driftclocks.views import SURELY_OVER, View, judge_life, refuse_view, view_at


def answer_past(told, wholes):
    """18 past (e)."""
    return [0] + [event for event, known in enumerate(find_known(told, wholes[0])) if known]


def limits_with(told, words, moments):
    """The limits between all points, with just these of the words and moments."""
    return View(steps_with(told, words, moments)).limits


def leave_out(things, number):
    """The list without the one of that number."""
    return things[:number] + things[number + 1:]


def answer_needless(told, wholes):
    """19 needless ()."""
    view = view_at(told, ALL_TOLD)
    if view.contradicts():
        return [CONTRADICTS]
    words = []
    for number in range(len(told.words)):
        if limits_with(told, leave_out(told.words, number), told.moments) == view.limits:
            words.append(number)
    moments = []
    for number in range(len(told.moments)):
        if limits_with(told, told.words, leave_out(told.moments, number)) == view.limits:
            moments.append(number)
    return [len(words)] + words + moments


def add_ordered_steps(steps, node, earlier, later, gap):
    """Puts in the steps of two moments of one run, at the later of which the clock shows so much more."""
    steps.tighten(later, earlier, ZERO)
    add_clock_steps(steps, node, earlier, later, gap)


def add_like_steps(steps, node, first, second):
    """Puts in the steps of two moments of one run at which the clock shows the same."""
    step = onward_step(node, 0, steps.scale)
    steps.tighten(first, second, step)
    steps.tighten(second, first, step)


def add_reading(steps, told, event, number, reading):
    """Puts in the steps by which the node's clock shows the reading, in its last run, at the event's moment."""
    node = told.nodes[number]
    for place, other in enumerate(told.events):
        if other.node != number:
            continue
        if other.run != node.cuts:
            steps.tighten(event, place, ZERO)
        elif other.reading < reading:
            add_ordered_steps(steps, node, place, event, reading - other.reading)
        elif other.reading > reading:
            add_ordered_steps(steps, node, event, place, other.reading - reading)
        else:
            add_like_steps(steps, node, place, event)


def answer_could(told, wholes):
    """20 could (e, i, c)."""
    view = view_at(told, ALL_TOLD)
    if view.contradicts():
        return [CONTRADICTS]
    add_reading(view.steps, told, wholes[0], wholes[1], wholes[2])
    return [0] if View(view.steps).contradicts() else [1]


def is_over_at(told, parcel, event):
    """Whether the parcel is surely over at the event, as known there."""
    view = view_at(told, event)
    if refuse_view(view, [parcel.event]) < 0:
        return False
    return judge_life(view.bounds_between(parcel.event, event), parcel.life * view.steps.scale) == SURELY_OVER


def answer_learned(told, wholes):
    """21 learned (p, i)."""
    for event, other in enumerate(told.events):
        if other.node == wholes[1] and is_over_at(told, told.parcels[wholes[0]], event):
            return [1, event]
    return [0]


def answer_told(told, wholes):
    """22 told ()."""
    lists = (told.nodes, told.events, told.words, told.moments, told.parcels, told.lines)
    return [len(things) for things in lists]


# By the numbers of the calls, from the first one on.
KNOWLEDGE = (answer_past, answer_needless, answer_could, answer_learned, answer_told)
FIRST_OF_KNOWLEDGE = 18


def answer_knowledge(told, call):
    """What a call of this file answers."""
    return KNOWLEDGE[call.number - FIRST_OF_KNOWLEDGE](told, call.wholes)
