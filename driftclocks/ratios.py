"""Fractions of whole numbers."""

from driftclocks.texts import bytes_of


def common_divisor(first, second):
    """The greatest number that divides both, neither of which is below 0."""
    while second != 0:
        rest = first % second
        first = second
        second = rest
    return first


def common_multiple(first, second):
    """The least number above 0 that both divide, both of which are above 0."""
    return first // common_divisor(first, second) * second


def fraction_answer(over, under):
    """How many bytes the text of over / under has in lowest terms, then these; under is above 0."""
    divisor = common_divisor(abs(over), under)
    top = over // divisor
    bottom = under // divisor
    text = bytes_of(str(top) if bottom == 1 else f"{top}/{bottom}")
    return [len(text)] + text
