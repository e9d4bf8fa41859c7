"""What the lines of a text of facts may be, and where a text has its fault."""

from driftclocks.ratios import common_divisor
from driftclocks.texts import bytes_of, split_at

BLANK = 32
LINE_END = 10
MINUS = 45
SLASH = 47
DIGIT_0 = 48
DIGIT_9 = 57
LETTER_A = 97
LETTER_Z = 122

LONGEST_NAME = 12
MOST_NUMBER = 1000000000000
LAST_EVENT = 19
MOST_OF_RATE = 1000000
# No number of a text may have more.
MOST_DIGITS = 300

# Stands for a greatest lag, or a latest moment, that isn't there: no number is below 0.
NO_MOST = -1

# None is answered by the functions below for a word that can't stand there.


def read_name(word):
    """The name that the word is."""
    if len(word) < 1 or len(word) > LONGEST_NAME:
        return None
    for byte in word:
        if byte < LETTER_A or byte > LETTER_Z:
            return None
    return tuple(word)


def read_digits(word):
    """The whole number that the word tells."""
    if len(word) == 0 or len(word) > MOST_DIGITS or (len(word) > 1 and word[0] == DIGIT_0):
        return None
    number = 0
    for byte in word:
        if byte < DIGIT_0 or byte > DIGIT_9:
            return None
        number = number * 10 + byte - DIGIT_0
    return number


def read_whole(word, least, most):
    """The whole number that the word tells, if it's from least to most."""
    number = read_digits(word)
    if number is None or number < least or number > most:
        return None
    return number


def read_number(word):
    """A number, or a reading."""
    return read_whole(word, 0, MOST_NUMBER)


def read_life(word):
    """A parcel's life."""
    return read_whole(word, 1, MOST_NUMBER)


def read_event(word):
    """An event's number."""
    return read_whole(word, 0, LAST_EVENT)


def read_most(word):
    """A greatest lag, or a latest moment: a number or none."""
    if word == [MINUS]:
        return NO_MOST
    return read_number(word)


def read_ratio(word):
    """A fraction in lowest terms that isn't below 0, as its two numbers."""
    pieces = split_at(word, SLASH)
    if len(pieces) > 2:
        return None
    over = read_digits(pieces[0])
    under = 1 if len(pieces) == 1 else read_digits(pieces[1])
    if over is None or under is None or common_divisor(over, under) != 1:
        return None
    if len(pieces) == 2 and under < 2:
        return None
    return (over, under)


def read_rate(word):
    """A rate as the two numbers of its fraction."""
    ratio = read_ratio(word)
    if ratio is None or ratio[0] < 1 or ratio[0] > MOST_OF_RATE or ratio[1] > MOST_OF_RATE:
        return None
    return ratio


def read_fraction(word):
    """Any fraction as its two numbers, the first of which is below 0 if the fraction is."""
    if len(word) == 0 or word[0] != MINUS:
        return read_ratio(word)
    ratio = read_ratio(word[1:])
    if ratio is None or ratio[0] == 0:
        return None
    return (0 - ratio[0], ratio[1])


# Of each kind of fact, by its number: its first word, and what reads each further one.
KINDS = ("node", "at", "cut", "word", "moment", "parcel")
FORMS = (
    (read_name, read_rate, read_rate),
    (read_name, read_number),
    (read_name,),
    (read_event, read_event, read_number, read_most),
    (read_event, read_number, read_most),
    (read_name, read_event, read_life),
)


class Fact:
    """One line: its bytes, its kind, the values of its words, and the place of its fault (-1: none)."""

    def __init__(self, line):
        self.line = line
        self.kind = None
        self.parts = []
        self.fault = -1


class FactsText:
    """The facts of a text up to its fault, and the place of that (-1: none)."""

    def __init__(self):
        self.facts = []
        self.fault = -1


def find_kind(word):
    """The number of the kind of fact that begins with this word, or None."""
    for kind, beginning in enumerate(KINDS):
        if word == bytes_of(beginning):
            return kind
    return None


def take_word(fact, word):
    """Takes the next word into the fact; answers whether it can stand there."""
    if fact.kind is None:
        fact.kind = find_kind(word)
        return fact.kind is not None
    form = FORMS[fact.kind]
    if len(fact.parts) == len(form):
        return False
    part = form[len(fact.parts)](word)
    if part is None:
        return False
    fact.parts.append(part)
    return True


def read_fact(line):
    """The fact of a line without its line's end."""
    fact = Fact(line)
    place = 0
    for word in split_at(line, BLANK):
        if not take_word(fact, word):
            fact.fault = place
            return fact
        place += len(word) + 1
    # Where words are missing, the fault is what stands behind the line: a line's end, or the text's end.
    if len(fact.parts) < len(FORMS[fact.kind]):
        fact.fault = len(line)
    return fact


def read_single(text):
    """The fact of a text that's one fact, in which a line's end can't stand."""
    line = split_at(text, LINE_END)[0]
    fact = read_fact(line)
    if fact.fault < 0 and len(line) < len(text):
        fact.fault = len(line)
    return fact


def read_facts(text):
    """The facts of a text of facts."""
    found = FactsText()
    if len(text) == 0:
        return found
    start = 0
    for line in split_at(text, LINE_END):
        fact = read_fact(line)
        if fact.fault >= 0:
            found.fault = start + fact.fault
            return found
        found.facts.append(fact)
        start += len(line) + 1
    return found
