"""The place of a fault, and numbers that are no bytes."""

import unittest

from tests.asking import CLEAR, LEAST, MOST, TEXT, ask, as_bytes, look, read, tell

GOOD = ["node a 1 1", "at a 0", "cut a", "word 0 1 0 -", "moment 0 0 -", "parcel a 0 1"]

# Texts of one line with the place of their fault.
LINES = [
    (" ", 0), ("  ", 0), (" cut a", 0), ("cut  a", 4), ("cut a ", 6), ("cut a  ", 6), ("cut  ", 4),
    ("cut", 3), ("cut ", 4), ("node", 4), ("node a", 6), ("node a ", 7), ("node a 1", 8), ("node a 1 ", 9),
    ("at", 2), ("at a", 4), ("word", 4), ("word 0", 6), ("word 0 1", 8), ("word 0 1 0", 10),
    ("moment", 6), ("moment 0", 8), ("moment 0 0", 10), ("parcel", 6), ("parcel a", 8), ("parcel a 0", 10),
    ("cut a a", 6), ("node a 1 1 1", 11), ("at a 0 0", 7), ("word 0 1 0 - -", 13), ("moment 0 0 - 0", 13),
    ("parcel a 0 1 1", 13),
    ("c", 0), ("cuts a", 0), ("Cut a", 0), ("cu t a", 0), ("0", 0), ("-", 0), ("\tcut a", 0), ("cut\ta", 0),
    ("cut a\r", 4), ("cut a\t", 4), ("cut a\0", 4), ("cut \xff", 4), ("parts a", 0), ("fact", 0),
    ("node 1 1 1", 5), ("node a a 1", 7), ("node a 1 a", 9), ("at 0 0", 3), ("at a a", 5), ("at a -", 5),
    ("word a 1 0 -", 5), ("word 0 a 0 -", 7), ("word 0 1 - -", 9), ("word 0 1 0 a", 11), ("word 0 1 0 --", 11),
    ("word 0 1 0 -1", 11), ("moment a 0 -", 7), ("moment 0 - -", 9), ("moment 0 0 a", 11), ("moment 0 0 -0", 11),
    ("parcel 0 0 1", 7), ("parcel a a 1", 9), ("parcel a 0 a", 11), ("parcel a 0 -", 11), ("parcel a 0 0", 11),
    ("word 20 1 0 -", 5), ("word 0 20 0 -", 7), ("moment 20 0 -", 7), ("parcel a 20 1", 9), ("parcel a 020 1", 9),
    ("parcel a 00 1", 9), ("word 01 1 0 -", 5),
]

# Texts with line's ends.
PAGES = [
    ("\n", 0), ("\n\n", 0), ("\ncut a", 0), ("cut a\n", 6), ("cut a\n\n", 6), ("cut a\n\ncut a", 6),
    ("cut a \ncut a", 6), ("cut a\n cut a", 6), ("cut a\ncut a ", 12), ("cut a\ncut a\n", 12), ("cut\ncut a", 3),
    ("cut \ncut a", 4), ("cut a\ncut", 9), ("cut a\ncut\n", 9), ("cut a\ncut  a", 10), ("cut a\na", 6),
    ("node a 1\nat a 0", 8), ("node a\n1 1", 6), ("cut a\ncut a a", 12), ("cut a\nat a 01", 11), ("cut a\n ", 6),
    ("cut a\ncut a\ncut A", 16),
]

NUMBERS = ["0", "1", "9", "10", "999999999999", "1000000000000"]
NO_NUMBERS = ["00", "01", "007", "1000000000001", "9999999999999", "10000000000000", "+1", "-1", "1.0", "1e3", "1_0",
              "0x1", "1/2", "\xb2", "1" * 1900, ":", "/"]
RATES = ["1", "1000000", "1/2", "3/2", "1/1000000", "999999/1000000", "1000000/999999", "1000000/3"]
NO_RATES = ["0", "00", "01", "1000001", "1/1", "2/1", "1/0", "0/1", "0/2", "2/2", "2/4", "6/4", "1000000/1000000",
            "1000001/2", "1/1000001", "01/2", "1/02", "/", "/2", "1/", "1//2", "1/2/3", "-1", "-1/2", "1/-2", "1.5",
            "a", "-"]
NAMES = ["a", "z", "abcdefghijkl", "node", "at"]
NO_NAMES = ["abcdefghijklm", "A", "a1", "a-", "`", "{", "a{", "`a", "\xe4"]


def place_of(text):
    """The place of a text's fault by look, None if it has none; and that read says the same."""
    looked, got = ask(look(text), read(text))
    if looked[0] != 1:
        return None
    assert got == [-1000 - looked[1]], (text, looked, got)
    return looked[1]


class Faults(unittest.TestCase):
    def test_each_kind_of_fact_stands(self):
        for line in GOOD:
            self.assertIsNone(place_of(line), line)
        self.assertIsNone(place_of("\n".join(GOOD)))

    def test_lines(self):
        for text, place in LINES:
            self.assertEqual(place_of(text), place, text)
            self.assertEqual(ask(tell(text)), [[-1000 - place]], text)

    def test_lines_behind_others(self):
        before = "\n".join(GOOD) + "\n"
        for text, place in LINES:
            self.assertEqual(place_of(before + text), len(before) + place, text)

    def test_lines_before_others(self):
        for text, place in LINES:
            self.assertEqual(place_of(text + "\ncut a"), place, text)

    def test_pages(self):
        for text, place in PAGES:
            self.assertEqual(place_of(text), place, text)

    def test_no_bytes(self):
        self.assertEqual(ask(look(""), read(""), TEXT, tell("")), [[0, 0], [0], [0], [-1000]])

    def test_a_fault_comes_before_a_line_that_is_refused(self):
        self.assertEqual(ask(look("cut a\ncut"), read("cut a\ncut")), [[1, 9], [-1009]])

    def test_line_end_cannot_stand_in_one_fact(self):
        cases = [("node a 1 1\n", 10), ("node a 1 1\nat a 0", 10), ("\n", 0), ("node a 1\n1", 8), ("cut \ncut a", 4),
                 ("cut a \ncut a", 6), ("cut a\n cut a", 5), ("node a 1 1\n\n", 10), ("cuts a\ncut a", 0),
                 ("cut A\ncut a", 4)]
        for text, place in cases:
            self.assertEqual(ask(tell(text)), [[-1000 - place]], text)

    def test_numbers(self):
        for form in ("at a ", "word 0 1 0 ", "moment 0 0 "):
            for number in NUMBERS:
                self.assertIsNone(place_of(form + number), form + number)
            for number in NO_NUMBERS:
                self.assertEqual(place_of(form + number), len(form), form + number)
        for number in NUMBERS:
            self.assertIsNone(place_of("word 0 1 " + number + " -"))
            self.assertIsNone(place_of("moment 0 " + number + " -"))
        for number in NO_NUMBERS:
            self.assertEqual(place_of("word 0 1 " + number + " -"), 9)
            self.assertEqual(place_of("moment 0 " + number + " -"), 9)

    def test_lives(self):
        for number in NUMBERS[1:]:
            self.assertIsNone(place_of("parcel a 0 " + number))
        for number in ["0"] + NO_NUMBERS:
            self.assertEqual(place_of("parcel a 0 " + number), 11)

    def test_events(self):
        for number in ("0", "9", "10", "19"):
            self.assertIsNone(place_of("word " + number + " 0 0 -"))
            self.assertIsNone(place_of("word 0 " + number + " 0 -"))
            self.assertIsNone(place_of("moment " + number + " 0 -"))
            self.assertIsNone(place_of("parcel a " + number + " 1"))
        for number in ("20", "99", "190", "-1", "-", "019", "1000000000000"):
            self.assertEqual(place_of("word " + number + " 0 0 -"), 5)
            self.assertEqual(place_of("word 0 " + number + " 0 -"), 7)
            self.assertEqual(place_of("moment " + number + " 0 -"), 7)
            self.assertEqual(place_of("parcel a " + number + " 1"), 9)

    def test_rates(self):
        for rate in RATES:
            self.assertIsNone(place_of("node a " + rate + " 1"), rate)
            self.assertIsNone(place_of("node a 1 " + rate), rate)
        for rate in NO_RATES:
            self.assertEqual(place_of("node a " + rate + " 1"), 7, rate)
            self.assertEqual(place_of("node a 1 " + rate), 9, rate)

    def test_names(self):
        for name in NAMES:
            for before, behind in (("node ", " 1 1"), ("at ", " 0"), ("cut ", ""), ("parcel ", " 0 1")):
                self.assertIsNone(place_of(before + name + behind), name)
        for name in [""] + NO_NAMES:
            for before, behind in (("node ", " 1 1"), ("at ", " 0"), ("cut ", ""), ("parcel ", " 0 1")):
                self.assertEqual(place_of(before + name + behind), len(before), name)


class NoBytes(unittest.TestCase):
    def test_numbers_outside_bytes(self):
        for number in (-1, 256, 1000, LEAST, MOST):
            for text in ([number], as_bytes("node a 1 1") + [number], [32, number], [number] + as_bytes("cut a"),
                         as_bytes("nonsense\n\n") + [number]):
                self.assertEqual(ask(tell(text), read(text), look(text)), [[-1], [-1], [-1]], text)

    def test_all_bytes_are_let_before_the_fault(self):
        for number in (0, 255):
            self.assertEqual(ask(tell([number]), read([number]), look([number])), [[-1000], [-1000], [1, 0]])

    def test_refusal_changes_nothing(self):
        before = ask(read("node a 1 1\nat a 0"), TEXT)[1]
        for bad in (tell([256]), read([256]), look([256]), tell("cut"), read("cut"), look("cut"), tell("cut a\n"),
                    read("cut a\n"), look("cut a\n")):
            self.assertEqual(ask(read("node a 1 1\nat a 0"), bad, TEXT)[2], before)

    def test_clear_after(self):
        self.assertEqual(ask(tell("node a 1 1"), CLEAR, TEXT, tell("node a 1 1")), [[1], [0], [0], [1]])


if __name__ == "__main__":
    unittest.main()
