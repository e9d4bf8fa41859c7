"""The calls as they're handed in, and the refusals that are the same for all of them."""

from driftclocks.refusals import NO_BYTE, NOT_THERE, OUT_OF_RANGE

# For each call, by its number: its whole numbers, a letter each, and what its list is, if it has one.
SHAPES = (
    ("", ""),
    ("", "text"),
    ("", "text"),
    ("", "text"),
    ("", ""),
    ("gef", ""),
    ("gef", ""),
    ("g", "points"),
    ("gef", ""),
    ("g", ""),
    ("", ""),
    ("gpf", ""),
    ("pic", ""),
    ("pi", ""),
    ("pi", ""),
    ("g", ""),
    ("gef", "text"),
    ("ge", ""),
    ("e", ""),
    ("", ""),
    ("eic", ""),
    ("pi", ""),
    ("", ""),
)

# The least and the greatest whole number for each letter.
RANGES = {
    "g": (-1, 19),
    "e": (0, 19),
    "f": (0, 19),
    "p": (0, 9),
    "i": (0, 5),
    "c": (0, 1000000000000),
}


class Call:
    """A call: its number, its whole numbers and its list, empty if it has none."""

    def __init__(self, number, wholes, row):
        self.number = number
        self.wholes = wholes
        self.row = row


def read_calls(calls):
    """The calls that stand one behind another in a list of numbers."""
    found = []
    place = 0
    while place < len(calls):
        number = calls[place]
        shape = SHAPES[number]
        start = place + 1
        place = start + len(shape[0])
        wholes = calls[start:place]
        row = []
        if shape[1] != "":
            start = place + 1
            place = start + calls[place]
            row = calls[start:place]
        found.append(Call(number, wholes, row))
    return found


def is_in_range(letter, whole):
    """Whether the whole number is in the range told for its letter."""
    ends = RANGES[letter]
    return whole >= ends[0] and whole <= ends[1]


def is_there(told, letter, whole):
    """Whether there's an event, parcel or node of that number; a reading, and g for all that's told, always are."""
    if letter == "p":
        return whole < len(told.parcels)
    if letter == "i":
        return whole < len(told.nodes)
    return letter == "c" or whole < len(told.events)


def refuse_call(told, call):
    """The first refusal that's due whatever the call does, 0 if there's none."""
    letters = SHAPES[call.number][0]
    for letter, whole in zip(letters, call.wholes):
        if not is_in_range(letter, whole):
            return OUT_OF_RANGE
    if SHAPES[call.number][1] == "text":
        for number in call.row:
            if number < 0 or number > 255:
                return NO_BYTE
    for letter, whole in zip(letters, call.wholes):
        if not is_there(told, letter, whole):
            return NOT_THERE
    return 0
