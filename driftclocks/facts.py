"""What's told, and which facts are refused."""

from driftclocks.grammar import NO_MOST
from driftclocks.refusals import FULL, NOT_FITTING, NOT_LET, NOT_THERE

MOST_NODES = 6
MOST_EVENTS = 20
MOST_CUTS = 100
MOST_WORDS = 20
MOST_MOMENTS = 10
MOST_PARCELS = 10


class Node:
    """A node; its rates are pairs of whole numbers, the first over the second."""

    def __init__(self, name, lowest, highest):
        self.name = name
        self.lowest = lowest
        self.highest = highest
        self.cuts = 0


class Event:
    """An event; its run is how often its node had been cut before it."""

    def __init__(self, node, run, reading):
        self.node = node
        self.run = run
        self.reading = reading


class Word:
    """A word from one event to another one."""

    def __init__(self, source, goal, least, greatest):
        self.source = source
        self.goal = goal
        self.least = least
        self.greatest = greatest


class Moment:
    """A true moment told of an event."""

    def __init__(self, event, first, latest):
        self.event = event
        self.first = first
        self.latest = latest


class Parcel:
    """A parcel that was put in at an event."""

    def __init__(self, name, event, life):
        self.name = name
        self.event = event
        self.life = life


class Told:
    """All that's told, and the lines of its facts in the order told."""

    def __init__(self):
        self.nodes = []
        self.events = []
        self.words = []
        self.moments = []
        self.parcels = []
        self.lines = []


def find_named(things, name):
    """The number of the node or parcel of that name, -1 if there's none."""
    for number, thing in enumerate(things):
        if thing.name == name:
            return number
    return -1


def is_event(told, event):
    """Whether there's an event of that number."""
    return event >= 0 and event < len(told.events)


def least_next(told, number):
    """The least reading that the node's next event can show: its last one, 0 if its last run has no event."""
    for event in reversed(told.events):
        if event.node == number and event.run == told.nodes[number].cuts:
            return event.reading
    return 0


def is_below(most, least):
    """Whether there's a greatest number, and it's less than the least one."""
    return most != NO_MOST and most < least


# Each function below answers 0 where the fact isn't refused.


def refuse_node(told, parts):
    """The refusal of a node."""
    lowest = parts[1]
    highest = parts[2]
    if find_named(told.nodes, parts[0]) >= 0:
        return NOT_LET
    if highest[0] * lowest[1] < lowest[0] * highest[1]:
        return NOT_FITTING
    if len(told.nodes) >= MOST_NODES:
        return FULL
    return 0


def refuse_at(told, parts):
    """The refusal of an event."""
    number = find_named(told.nodes, parts[0])
    if number < 0:
        return NOT_THERE
    if parts[1] < least_next(told, number):
        return NOT_FITTING
    if len(told.events) >= MOST_EVENTS:
        return FULL
    return 0


def refuse_cut(told, parts):
    """The refusal of a cut."""
    number = find_named(told.nodes, parts[0])
    if number < 0:
        return NOT_THERE
    if told.nodes[number].cuts >= MOST_CUTS:
        return FULL
    return 0


def refuse_word(told, parts):
    """The refusal of a word."""
    if not is_event(told, parts[0]) or not is_event(told, parts[1]):
        return NOT_THERE
    if told.events[parts[0]].node == told.events[parts[1]].node or is_below(parts[3], parts[2]):
        return NOT_FITTING
    if len(told.words) >= MOST_WORDS:
        return FULL
    return 0


def refuse_moment(told, parts):
    """The refusal of a moment."""
    if not is_event(told, parts[0]):
        return NOT_THERE
    if is_below(parts[2], parts[1]):
        return NOT_FITTING
    if len(told.moments) >= MOST_MOMENTS:
        return FULL
    return 0


def refuse_parcel(told, parts):
    """The refusal of a parcel."""
    if find_named(told.parcels, parts[0]) >= 0:
        return NOT_LET
    if not is_event(told, parts[1]):
        return NOT_THERE
    if len(told.parcels) >= MOST_PARCELS:
        return FULL
    return 0


def take_node(told, parts):
    """Takes in a node."""
    told.nodes.append(Node(parts[0], parts[1], parts[2]))


def take_at(told, parts):
    """Takes in an event."""
    number = find_named(told.nodes, parts[0])
    told.events.append(Event(number, told.nodes[number].cuts, parts[1]))


def take_cut(told, parts):
    """Takes in a cut."""
    node = told.nodes[find_named(told.nodes, parts[0])]
    node.cuts += 1


def take_word(told, parts):
    """Takes in a word."""
    told.words.append(Word(parts[0], parts[1], parts[2], parts[3]))


def take_moment(told, parts):
    """Takes in a moment."""
    told.moments.append(Moment(parts[0], parts[1], parts[2]))


def take_parcel(told, parts):
    """Takes in a parcel."""
    told.parcels.append(Parcel(parts[0], parts[1], parts[2]))


# Both by the numbers of the kinds of facts.
REFUSE = (refuse_node, refuse_at, refuse_cut, refuse_word, refuse_moment, refuse_parcel)
TAKE = (take_node, take_at, take_cut, take_word, take_moment, take_parcel)


def tell_fact(told, fact):
    """Takes the fact in and answers 0, or answers its refusal and changes nothing."""
    refusal = REFUSE[fact.kind](told, fact.parts)
    if refusal < 0:
        return refusal
    TAKE[fact.kind](told, fact.parts)
    told.lines.append(fact.line)
    return 0
