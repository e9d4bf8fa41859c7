"""Calls as lists of numbers, and answers taken apart again."""

from fractions import Fraction

from driftclocks.lives import answers

ALL = -1
CLEAR = [0]
TEXT = [4]
LIARS = [10]


def as_bytes(text):
    return [ord(sign) for sign in text] if isinstance(text, str) else list(text)


def with_row(head, row):
    row = as_bytes(row)
    return head + [len(row)] + row


def tell(text):
    return with_row([1], text)


def read(text):
    return with_row([2], text)


def look(text):
    return with_row([3], text)


def bounds(g, e, f):
    return [5, g, e, f]


def chain(g, e, f):
    return [6, g, e, f]


def shows(g, points):
    return with_row([7, g], points)


def order(g, e, f):
    return [8, g, e, f]


def clash(g):
    return [9, g]


def life(g, p, f):
    return [11, g, p, f]


def split_answers(numbers):
    found = []
    place = 0
    while place < len(numbers):
        found.append(numbers[place + 1:place + 1 + numbers[place]])
        place += 1 + numbers[place]
    return found


def ask(*calls):
    """The answers of these calls on one new object."""
    found = split_answers(answers([number for call in calls for number in call]))
    assert len(found) == len(calls)
    return found


def ask_of(lines, *calls):
    """The answers of these calls where these lines are told."""
    return ask(read("\n".join(lines)), *calls)[1:]


def ask_one(lines, call):
    return ask_of(lines, call)[0]


def as_text(numbers):
    return "".join(chr(number) for number in numbers)


def take_limit(numbers):
    """The limit at the beginning of these numbers as None or (number, is open), and the rest."""
    if numbers[0] == 0:
        return None, numbers[1:]
    end = 2 + numbers[1]
    text = as_text(numbers[2:end])
    return (Fraction(text), numbers[0] == 2), numbers[end:]


def limits_of(answer):
    """The limits behind an answer's first 0."""
    assert answer[0] == 0
    rest = answer[1:]
    found = []
    while rest:
        limit, rest = take_limit(rest)
        found.append(limit)
    return found


def closed(text):
    return [1, len(text)] + as_bytes(text)


def strict(text):
    return [2, len(text)] + as_bytes(text)
