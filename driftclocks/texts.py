"""Texts as lists of bytes."""


def bytes_of(text):
    """The bytes of a text of plain signs."""
    return [ord(sign) for sign in text]


def split_at(numbers, mark):
    """The pieces between the marks, empty ones too: always one more than there are marks."""
    pieces = []
    start = 0
    for place, number in enumerate(numbers):
        if number == mark:
            pieces.append(numbers[start:place])
            start = place + 1
    pieces.append(numbers[start:])
    return pieces
