"""That long lists of calls end soon, about as much as can be told."""

import time
import unittest
from fractions import Fraction

from tests.asking import (ALL, LAST_READING, LIARS, NEEDLESS, TOLD, age, ask, bounds, chain, clash, clock, could, learned, life,
                          living, moments_of, order, over, past, pinned, read, shows, world)

NAMES = "abcdef"
# Seconds that a list of calls may take; each of those below takes but a small part of that.
SOON = 10


def full_telling():
    """6 nodes with rates of large numbers, 20 events, 20 words, 10 moments, 10 parcels."""
    lines = []
    for number, name in enumerate(NAMES):
        rate = Fraction(999000 + 37 * number, 999983)
        lines.append(f"node {name} {rate} {1 / rate}")
    lines += [f"at {NAMES[event % 6]} {event * 1000}" for event in range(20)]
    lines += [f"word {event} {event + 1} 900 1100" for event in range(19)] + ["word 0 19 1000 -"]
    lines += [f"moment {event} {event * 1000} {event * 1000 + 1500}" for event in range(0, 20, 2)]
    lines += [f"parcel {name} {event} 5000" for event, name in enumerate("abcdefghij")]
    return lines


def long_ring():
    """As much, with a contradiction that only a ring of all events shows."""
    lines = ["node a 1 1", "node b 1 1"]
    for event in range(20):
        lines += [f"at {NAMES[event % 2]} 0", f"cut {NAMES[event % 2]}"]
    return lines + [f"word {event} {event + 1} 0 1" for event in range(19)] + ["word 0 19 20 -"]


def six_liars():
    """As much, such that all six clocks must lie."""
    lines = [f"node {name} 1 1" for name in NAMES]
    lines += [f"at {name} {reading}" for reading in (0, 5, 10) for name in NAMES] + ["at a 10", "at b 10"]
    lines += ["moment 0 0 0", "moment 6 50 50"]
    for number in range(1, 6):
        lines += [f"word 0 {number} 0 0", f"word 6 {number + 6} 0 0"]
    return lines


class Long(unittest.TestCase):
    def check(self, lines, calls):
        """The answers, which come soon."""
        begun = time.monotonic()
        found = ask(read("\n".join(lines)), *calls)
        self.assertLess(time.monotonic() - begun, SOON, calls[0])
        self.assertEqual(found[0], [len(lines)])
        return found[1:]

    def test_each_call_again_and_again(self):
        lines = full_telling()
        calls = [bounds(ALL, 0, 19), chain(ALL, 0, 19), shows(ALL, list(range(20)) * 2), order(19, 0, 19), life(ALL, 0, 19),
                 age(0, 5, LAST_READING), over(0, 5), living(9, 5), world(ALL), world(19), clock(ALL, 19), past(19),
                 could(3, 5, 3000), TOLD, pinned(ALL, 0, 19, "19000")]
        for call in calls:
            found = self.check(lines, [call] * 99)
            self.assertGreaterEqual(found[0][0], 0, call)
            self.assertEqual(found, found[:1] * 99, call)

    def test_calls_of_which_there_are_at_most_ten(self):
        for lines in (full_telling(), long_ring(), six_liars()):
            for call in (NEEDLESS, clash(ALL), LIARS):
                found = self.check(lines, [call] * 10)
                self.assertEqual(found, found[:1] * 10, call)
        for call in (learned(0, 0), learned(9, 5), learned(0, 3)):
            found = self.check(full_telling(), [call] * 10)
            self.assertGreaterEqual(found[0][0], 0)
        self.assertEqual(self.check(long_ring(), [clash(ALL)]), [[20] + list(range(20))])
        self.assertEqual(self.check(six_liars(), [LIARS]), [[6, 0, 1, 2, 3, 4, 5]])

    def test_all_calls_mixed(self):
        calls = [clash(ALL), LIARS, NEEDLESS, learned(0, 3), NEEDLESS, LIARS, learned(9, 0), clash(19), NEEDLESS, learned(5, 5)]
        for event in range(11):
            calls += [bounds(ALL, event, 19), chain(19, 0, event), world(event), clock(ALL, event), over(event % 10, 3),
                      living(event % 10, 4), could(event, 2, 9000), pinned(ALL, 0, event, str(event * 1000))]
        found = self.check(full_telling(), calls[:99])
        self.assertTrue(all(answer[0] >= 0 for answer in found))

    def test_pinned_to_numbers_of_300_digits(self):
        lines = full_telling()
        # 19000 and very little more.
        number = 19000 + Fraction(1, 10**295 + 7)
        calls = [pinned(ALL, 0, 19, str(number))] * 20
        found = self.check(lines, calls)
        moments = moments_of(found[0][1:])
        self.assertEqual(found[0][0], 1)
        self.assertEqual(moments[19] - moments[0], number)
        free = [line for line in lines if not line.startswith(("word", "moment"))]
        for text in ("7" * 300 + "/" + "1" + "0" * 299, "-" + "7" * 300):
            found = self.check(free, [pinned(ALL, 0, 5, text)] * 20)
            moments = moments_of(found[0][1:])
            self.assertEqual(moments[5] - moments[0], Fraction(text))


if __name__ == "__main__":
    unittest.main()
