"""The calls that ask what a node's next reading would say of a parcel."""

from driftclocks.facts import least_next
from driftclocks.grammar import MOST_NUMBER
from driftclocks.limits import add_limits, negate_limit, tighter_limit
from driftclocks.refusals import CONTRADICTS, NOT_FITTING
from driftclocks.steps import ALL_TOLD, backward_step, onward_step
from driftclocks.views import SURELY_LIVING, SURELY_OVER, bounds_answer, judge_life, view_at


def bounds_at_next(view, told, source, number, reading):
    """The bounds of how much later than the source an event more of the node is, if it shows this reading.

    An event more leaves all other limits as they are, since in each world of the others the clock can go
    on to any next reading; so one step from or to it, and a limit, are all that's needed.
    """
    node = told.nodes[number]
    onward = None
    backward = None
    for event, other in enumerate(told.events):
        if other.node != number:
            continue
        rest = view.limit_between(event, source)
        backward = tighter_limit(backward, rest)
        if other.run == node.cuts:
            gap = reading - other.reading
            backward = tighter_limit(backward, add_limits(backward_step(node, gap, view.steps.scale), rest))
            step = onward_step(node, gap, view.steps.scale)
            onward = tighter_limit(onward, add_limits(view.limit_between(source, event), step))
    return (negate_limit(backward), onward)


class NextReadings:
    """A parcel, and the node whose clock is to show a reading more behind all that's told."""

    def __init__(self, told, parcel, number):
        self.told = told
        self.view = view_at(told, ALL_TOLD)
        self.parcel = told.parcels[parcel]
        self.number = number

    def age_at(self, reading):
        """The bounds of the parcel's age at that reading."""
        return bounds_at_next(self.view, self.told, self.parcel.event, self.number, reading)

    def life_at(self, reading):
        """Whether the parcel's life is over at that reading."""
        return judge_life(self.age_at(reading), self.parcel.life * self.view.steps.scale)


def least_reading(least, holds):
    """The least reading from the least one on for which it holds, one above the last reading if there's none.

    What holds for a reading must hold for all greater ones too.
    """
    end = MOST_NUMBER + 1
    while least < end:
        middle = (least + end) // 2
        if holds(middle):
            end = middle
        else:
            least = middle + 1
    return least


def answer_age(told, wholes):
    """12 age (p, i, c)."""
    reading = wholes[2]
    if reading < least_next(told, wholes[1]):
        return [NOT_FITTING]
    readings = NextReadings(told, wholes[0], wholes[1])
    if readings.view.contradicts():
        return [CONTRADICTS]
    return [readings.life_at(reading)] + bounds_answer(readings.age_at(reading), readings.view.steps.scale)


def answer_over(told, wholes):
    """13 over (p, i)."""
    readings = NextReadings(told, wholes[0], wholes[1])
    if readings.view.contradicts():
        return [CONTRADICTS]
    # The greater the reading, the greater is the least age that it lets.
    found = least_reading(least_next(told, wholes[1]), lambda reading: readings.life_at(reading) == SURELY_OVER)
    return [0] if found > MOST_NUMBER else [1, found]


def answer_living(told, wholes):
    """14 living (p, i)."""
    readings = NextReadings(told, wholes[0], wholes[1])
    if readings.view.contradicts():
        return [CONTRADICTS]
    # The greater the reading, the greater is the greatest age that it lets.
    least = least_next(told, wholes[1])
    end = least_reading(least, lambda reading: readings.life_at(reading) != SURELY_LIVING)
    return [0] if end == least else [1, end - 1]


# By the numbers of the calls, from the first one on.
READINGS = (answer_age, answer_over, answer_living)
FIRST_OF_READINGS = 12


def answer_readings(told, call):
    """What a call of this file answers."""
    return READINGS[call.number - FIRST_OF_READINGS](told, call.wholes)
