"""Calls as lists of numbers, and answers taken apart again."""

from fractions import Fraction

from driftclocks.lives import answers

ALL = -1
CLEAR = [0]
TEXT = [4]
LIARS = [10]
NEEDLESS = [19]
TOLD = [22]

# The ends of what a whole number handed in can be, and the last reading of a clock.
LEAST = -9223372036854775808
MOST = 9223372036854775807
LAST_READING = 10**12


def as_bytes(text):
    return [ord(sign) for sign in text] if isinstance(text, str) else list(text)


def with_row(head, row):
    row = as_bytes(row)
    return head + [len(row)] + row


def tell(text):
    return with_row([1], text)


def read(text):
    return with_row([2], text)


def look(text):
    return with_row([3], text)


def bounds(g, e, f):
    return [5, g, e, f]


def chain(g, e, f):
    return [6, g, e, f]


def shows(g, points):
    return with_row([7, g], points)


def order(g, e, f):
    return [8, g, e, f]


def clash(g):
    return [9, g]


def life(g, p, f):
    return [11, g, p, f]


def age(p, i, c):
    return [12, p, i, c]


def over(p, i):
    return [13, p, i]


def living(p, i):
    return [14, p, i]


def world(g):
    return [15, g]


def pinned(g, e, f, text):
    return with_row([16, g, e, f], text)


def clock(g, e):
    return [17, g, e]


def past(e):
    return [18, e]


def could(e, i, c):
    return [20, e, i, c]


def learned(p, i):
    return [21, p, i]


def split_answers(numbers):
    found = []
    place = 0
    while place < len(numbers):
        found.append(numbers[place + 1:place + 1 + numbers[place]])
        place += 1 + numbers[place]
    return found


def ask(*calls):
    """The answers of these calls on one new object."""
    found = split_answers(answers([number for call in calls for number in call]))
    assert len(found) == len(calls)
    return found


def ask_of(lines, *calls):
    """The answers of these calls where these lines are told."""
    return ask(read("\n".join(lines)), *calls)[1:]


def ask_one(lines, call):
    return ask_of(lines, call)[0]


def as_text(numbers):
    return "".join(chr(number) for number in numbers)


def take_limit(numbers):
    """The limit at the beginning of these numbers as None or (number, is open), and the rest."""
    if numbers[0] == 0:
        return None, numbers[1:]
    end = 2 + numbers[1]
    text = as_text(numbers[2:end])
    return (Fraction(text), numbers[0] == 2), numbers[end:]


def limits_of(answer):
    """The limits behind an answer's first 0."""
    assert answer[0] == 0
    rest = answer[1:]
    found = []
    while rest:
        limit, rest = take_limit(rest)
        found.append(limit)
    return found


def fraction(text):
    """A fraction as it's answered."""
    return [len(text)] + as_bytes(text)


def moments_of(numbers):
    """The moments of events as a world is answered, behind its first number."""
    found = {}
    place = 0
    while place < len(numbers):
        end = place + 2 + numbers[place + 1]
        assert not found or numbers[place] > max(found), numbers
        found[numbers[place]] = Fraction(as_text(numbers[place + 2:end]))
        place = end
    return found


def value_of(answer):
    """The one fraction behind an answer's first 0."""
    assert answer[0] == 0 and len(answer) == 2 + answer[1], answer
    return Fraction(as_text(answer[2:]))


def closed(text):
    return [1, len(text)] + as_bytes(text)


def strict(text):
    return [2, len(text)] + as_bytes(text)
