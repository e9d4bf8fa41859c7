"""world, pinned and clock."""

import unittest
from fractions import Fraction

from tests.asking import (ALL, LEAST, MOST, TEXT, as_bytes, ask, ask_of, ask_one, bounds, clock, fraction, moments_of, pinned,
                          read, value_of, world)

TWO = ["node a 1 1", "node b 1 1", "at a 0", "at b 0"]
# Event 1 is above 9/2 and below 22 later than 0.
ONE_CLOCK = ["node a 1/2 2", "at a 0", "at a 10"]
HEARD = ["node a 1 1", "node b 1 1", "at a 0", "at b 10", "at b 12", "at a 20", "word 0 1 2 5"]
# What's known at 0 doesn't contradict, what's known at 1 does, and 2 is known at neither.
CLASHING = ["node a 1 1", "node b 1 1", "at a 0", "at a 10", "at b 0", "moment 0 0 0", "moment 1 5 5"]


def as_world(*texts):
    """The events from 0 on with these moments, as they're answered."""
    return [number for event, text in enumerate(texts) for number in [event] + fraction(text)]


class Worlds(unittest.TestCase):
    def check(self, lines, g, *texts):
        self.assertEqual(ask_one(lines, world(g)), [0] + as_world(*texts), lines)

    def test_nothing(self):
        self.assertEqual(ask(world(ALL)), [[0]])

    def test_neither_earliest_nor_latest(self):
        self.check(TWO, ALL, "0", "0")

    def test_just_an_earliest(self):
        self.check(TWO + ["moment 0 5 -"], ALL, "6", "0")
        self.check(TWO + ["moment 0 5 -", "word 0 1 3 -"], ALL, "6", "10")
        self.check(TWO + ["word 0 1 3 -", "moment 1 7 -"], ALL, "0", "8")

    def test_just_a_latest(self):
        self.check(TWO + ["word 1 0 3 -"], ALL, "0", "-4")
        self.check(TWO + ["word 1 0 0 -"], ALL, "0", "-1")

    def test_the_middle(self):
        self.check(TWO + ["moment 0 5 9", "word 0 1 2 7"], ALL, "7", "23/2")
        self.check(TWO + ["moment 0 5 5"], ALL, "5", "0")
        self.check(TWO + ["word 0 1 0 1"], ALL, "0", "1/2")
        self.check(TWO + ["word 1 0 0 1"], ALL, "0", "-1/2")
        self.check(ONE_CLOCK, ALL, "0", "53/4")

    def test_greatest_of_several_earliest_and_least_of_several_latest(self):
        lines = TWO + ["moment 0 10 10"]
        self.check(lines + ["word 0 1 2 9", "moment 1 15 18"], ALL, "10", "33/2")
        self.check(lines + ["word 0 1 6 7", "moment 1 11 30"], ALL, "10", "33/2")
        self.check(lines + ["word 0 1 6 30", "moment 1 11 17"], ALL, "10", "33/2")

    def test_limits_count_and_not_steps_alone(self):
        # Event 1 has no step to -1 or 0, but chains over event 2, of a greater number.
        lines = ["node a 1 1", "node b 1 1", "node c 1 1", "at a 0", "at b 0", "at c 0", "word 1 2 4 6", "moment 2 20 20"]
        self.check(lines, ALL, "0", "15", "20")

    def test_thirds_and_halves(self):
        lines = ["node a 1/3 3", "at a 0", "at a 4", "at a 6"]
        # 1 is above 1 and below 15 later than 0; 2 above 5/3 and below 21 later than 0, above 1/3 and below 9 than 1.
        self.check(lines, ALL, "0", "8", "38/3")

    def test_as_known(self):
        self.assertEqual(ask_one(HEARD, world(0)), [0] + as_world("0"))
        self.assertEqual(ask_one(HEARD, world(1)), [0] + as_world("0", "7/2"))
        self.assertEqual(ask_one(HEARD, world(3)), [0, 0] + fraction("0") + [3] + fraction("20"))
        # At 0 its own moments alone are known; by that of 1 it's above 14, and then 1 is above 26 and below 28.
        lines = ["node a 1 1", "at a 0", "at a 10", "moment 0 0 20", "moment 1 25 -"]
        self.check(lines, 0, "10")
        self.check(lines, 1, "17", "27")

    def test_an_unknown_event_has_no_share(self):
        # Event 0 isn't known at 2, so that 1 and 2 are as if it weren't there.
        lines = ["node a 1 1", "node b 1 1", "at a 0", "at b 0", "at b 5", "word 1 0 3 3", "moment 0 90 90"]
        self.assertEqual(ask_one(lines, world(2)), [0, 1] + fraction("0") + [2] + fraction("5"))
        self.assertEqual(moments_of(ask_one(lines, world(ALL))[1:]), {0: 90, 1: 87, 2: 92})

    def test_contradiction_elsewhere(self):
        self.check(CLASHING, 0, "0")
        self.assertEqual(ask_one(CLASHING, world(2)), [0, 2] + fraction("0"))

    def test_twenty_halvings(self):
        # Each event lies between the one before it and the moment 1.
        lines = ["node a 1 1", "node b 1 1"]
        for event in range(20):
            lines += [f"at {'ab'[event % 2]} 0", f"cut {'ab'[event % 2]}"]
        lines += [f"word {event} {event + 1} 0 -" for event in range(19)] + ["moment 0 0 -", "moment 19 0 1"]
        self.check(lines, ALL, *[str(1 - Fraction(1, 2 ** (event + 1))) for event in range(20)])


class Pinned(unittest.TestCase):
    def check(self, lines, call, *texts):
        self.assertEqual(ask_one(lines, call), [1] + as_world(*texts), call)

    def test_one_clock(self):
        self.check(ONE_CLOCK, pinned(ALL, 0, 1, "5"), "0", "5")
        self.check(ONE_CLOCK, pinned(ALL, 1, 0, "-5"), "0", "5")
        self.check(ONE_CLOCK, pinned(ALL, 0, 1, "43/2"), "0", "43/2")
        self.check(ONE_CLOCK, pinned(ALL, 0, 1, "1000/201"), "0", "1000/201")
        for text in ("9/2", "22", "4", "23", "0", "-5", "-1/2"):
            self.assertEqual(ask_one(ONE_CLOCK, pinned(ALL, 0, 1, text)), [0], text)
        for text in ("5", "0", "-9/2", "-22"):
            self.assertEqual(ask_one(ONE_CLOCK, pinned(ALL, 1, 0, text)), [0], text)

    def test_reached_bounds(self):
        lines = TWO + ["word 0 1 2 5"]
        self.check(lines, pinned(ALL, 0, 1, "2"), "0", "2")
        self.check(lines, pinned(ALL, 0, 1, "5"), "0", "5")
        self.check(lines, pinned(ALL, 0, 1, "7/3"), "0", "7/3")
        self.assertEqual(ask_of(lines, pinned(ALL, 0, 1, "1"), pinned(ALL, 0, 1, "6"), pinned(ALL, 0, 1, "16/3")), [[0]] * 3)

    def test_no_bounds(self):
        for text in ("0", "7", "-7", "1/2", "-1/3", "1" * 300, "-" + "9" * 300, "1/" + "9" * 300,
                     "-" + "3" * 299 + "1/" + "7" * 300):
            self.check(TWO, pinned(ALL, 0, 1, text), "0", text)

    def test_others_keep_to_it(self):
        # Event 1 lies between 0 and 2, which are pinned.
        lines = TWO + ["cut a", "at a 0", "word 0 1 1 -", "word 1 2 1 -", "moment 0 10 10"]
        self.check(lines, pinned(ALL, 0, 2, "6"), "10", "13", "16")
        self.check(lines, pinned(ALL, 0, 2, "2"), "10", "11", "12")
        self.check(lines, pinned(ALL, 2, 0, "-13/2"), "10", "53/4", "33/2")
        self.assertEqual(ask_one(lines, pinned(ALL, 0, 2, "199/100")), [0])

    def test_the_same_event(self):
        self.check(ONE_CLOCK, pinned(ALL, 0, 0, "0"), "0", "53/4")
        self.check(ONE_CLOCK, pinned(ALL, 1, 1, "0"), "0", "53/4")
        for text in ("1", "-1", "1/1000", "-1/1000", "9" * 300, "-1/" + "9" * 300):
            self.assertEqual(ask_of(ONE_CLOCK, pinned(ALL, 0, 0, text), pinned(1, 1, 1, text)), [[0], [0]], text)

    def test_as_known(self):
        self.check(HEARD, pinned(1, 0, 1, "3"), "0", "3")
        self.check(HEARD, pinned(0, 0, 0, "0"), "0")
        # What's known at 1 lets more than all that's told.
        lines = TWO + ["at a 3", "word 0 1 0 -", "word 1 2 0 -"]
        self.check(lines, pinned(1, 0, 1, "5"), "0", "5")
        self.assertEqual(ask_one(lines, pinned(ALL, 0, 1, "5")), [0])
        self.assertEqual(ask_one(HEARD, pinned(3, 0, 3, "41/2")), [1, 0] + fraction("0") + [3] + fraction("41/2"))

    def test_world_without_it_stays(self):
        found = ask(read("\n".join(ONE_CLOCK)), world(ALL), pinned(ALL, 0, 1, "5"), world(ALL), bounds(ALL, 0, 1), TEXT)
        self.assertEqual(found[1], found[3])
        self.assertEqual(found[4], ask_one(ONE_CLOCK, bounds(ALL, 0, 1)))
        self.assertEqual(found[5], [0] + as_bytes("\n".join(ONE_CLOCK)))

    def test_is_a_fraction(self):
        for text in ("0", "1", "-1", "10", "1/2", "-1/2", "3/2", "-30/7", "1/10", "9" * 300, "1/" + "9" * 300,
                     "1" + "0" * 299 + "/" + "9" * 300, "-1" + "0" * 299 + "/" + "9" * 300, "1000001/1000002"):
            self.assertEqual(ask_one(TWO, pinned(ALL, 0, 1, text))[0], 1, text)

    def test_is_no_fraction(self):
        wrong = ["", "-", "-0", "00", "01", "-01", "0/1", "0/2", "-0/2", "1/1", "2/1", "-2/1", "2/2", "2/4", "-2/4", "6/4", "1/0",
                 "0/0", "1/01", "01/2", "/", "/2", "1/", "-/2", "-1/", "1//2", "1/2/3", "1/-2", "-1/-2", "--1", "+1", "1-", "1.5",
                 "1e3", " 1", "1 ", "1\n", "a", "1/a", "1" * 301, "-" + "1" * 301, "1/" + "1" * 301, "0" * 301, "1" * 2000,
                 "3" * 300 + "/" + "9" * 300, "1" * 301 + "/2", "\xb2", "1/\xb2", "/1", "1/1/", [0], [49, 0], [255], [47] * 2000]
        for text in wrong:
            self.assertEqual(ask_of(TWO, pinned(ALL, 0, 1, text), pinned(ALL, 0, 0, text)), [[-4], [-4]], text)


class Clock(unittest.TestCase):
    def check(self, lines, cases):
        for call, text in cases:
            self.assertEqual(ask_one(lines, call), [0] + fraction(text), call)

    def test_its_own_reading(self):
        self.check(TWO, [(clock(ALL, 0), "0"), (clock(ALL, 1), "0")])
        self.check(ONE_CLOCK, [(clock(ALL, 0), "0"), (clock(ALL, 1), "10")])

    def test_the_lowest_rate_from_earlier_ones(self):
        self.check(ONE_CLOCK + ["moment 0 0 0", "moment 1 21 21"], [(clock(ALL, 0), "0"), (clock(ALL, 1), "21/2")])

    def test_the_highest_rate_from_later_ones(self):
        lines = ["node a 1/2 7/3", "at a 0", "at a 10", "moment 0 0 0", "moment 1 4 4"]
        self.check(lines, [(clock(ALL, 0), "2/3"), (clock(ALL, 1), "10")])

    def test_the_greatest_counts(self):
        # By event 0 the clock shows at least 10/3 at 1, by event 2 at least 10 - 7/3 * 3 = 3.
        lines = ["node a 1/3 7/3", "at a 0", "at a 3", "at a 10", "moment 0 0 0", "moment 1 10 10", "moment 2 13 13"]
        self.check(lines, [(clock(ALL, 0), "0"), (clock(ALL, 1), "10/3"), (clock(ALL, 2), "10")])
        # By event 0 at least 3, by event 2 at least 10 - 9/4 * 3.
        lines = ["node a 1/3 9/4", "at a 0", "at a 3", "at a 10", "moment 0 0 0", "moment 1 9 9", "moment 2 12 12"]
        self.check(lines, [(clock(ALL, 1), "13/4"), (clock(ALL, 0), "0")])

    def test_events_at_one_moment(self):
        lines = ["node a 1 1", "at a 5", "at a 5", "moment 0 3 3", "moment 1 3 3"]
        self.check(lines, [(clock(ALL, 0), "5"), (clock(ALL, 1), "5")])

    def test_other_runs_and_nodes_do_not_count(self):
        lines = ["node a 1/2 2", "node b 1/2 2", "at a 0", "cut a", "at b 0", "at a 0"]
        lines += ["moment 0 0 0", "moment 1 1 1", "moment 2 99 99"]
        self.check(lines, [(clock(ALL, 0), "0"), (clock(ALL, 1), "0"), (clock(ALL, 2), "0")])

    def test_as_known(self):
        # By all that's told event 1 makes the clock show more at 0 than its reading; at 0 that isn't known.
        lines = ["node a 1/2 7/3", "at a 0", "at a 10", "moment 0 0 0", "moment 1 4 4"]
        self.check(lines, [(clock(0, 0), "0"), (clock(1, 0), "2/3"), (clock(1, 1), "10")])

    def test_unknown_events_of_the_run_do_not_count(self):
        # Known at 0 are 0 and (by the word) 1; 2 is of the run of 0, and would make it show more.
        lines = ["node a 1/2 7/3", "node b 1 1", "at a 0", "at b 0", "at a 10", "word 1 0 0 -", "moment 0 0 0", "moment 2 4 4"]
        self.check(lines, [(clock(0, 0), "0"), (clock(ALL, 0), "2/3"), (clock(2, 0), "2/3")])

    def test_great_numbers(self):
        lines = ["node a 1/1000000 1000000/999999", "at a 0", "at a 1000000000000"]
        found = ask_of(lines, world(ALL), clock(ALL, 0), clock(ALL, 1))
        moments = moments_of(found[0][1:])
        low, high = Fraction(999998999999000001, 1000000), 1000000000001000000
        self.assertEqual(moments, {0: 0, 1: (low + high) / 2})
        self.assertEqual(value_of(found[1]), 0)
        self.assertEqual(value_of(found[2]), 10**12)


class Refusals(unittest.TestCase):
    def check(self, lines, refusal, *calls):
        self.assertEqual(ask_of(lines, *calls), [[refusal]] * len(calls), calls)

    def test_out_of_range(self):
        for lines in ([], HEARD, CLASHING):
            for wrong in (-2, 20, LEAST, MOST):
                self.check(lines, -3, world(wrong), clock(wrong, 0), clock(wrong, 19), pinned(wrong, 0, 0, "0"),
                           pinned(wrong, 19, 19, [256]))
            for wrong in (-1, 20, LEAST, MOST):
                self.check(lines, -3, clock(ALL, wrong), clock(19, wrong), pinned(ALL, wrong, 0, "0"), pinned(ALL, 0, wrong, "0"),
                           pinned(19, 19, wrong, [-1]), pinned(19, wrong, 19, [-1]))

    def test_no_byte(self):
        for lines in ([], HEARD, CLASHING):
            for wrong in ([256], [-1], [49, 256], [LEAST], [MOST, 49], [48] * 1999 + [-1]):
                self.check(lines, -1, pinned(ALL, 0, 0, wrong), pinned(19, 0, 0, wrong), pinned(ALL, 19, 0, wrong),
                           pinned(ALL, 0, 19, wrong), pinned(0, 0, 1, wrong))

    def test_not_there(self):
        self.check([], -5, world(0), world(19), clock(ALL, 0), pinned(ALL, 0, 0, "0"))
        self.check(HEARD, -5, world(4), clock(4, 0), clock(ALL, 4), clock(0, 4), pinned(4, 0, 0, "x"), pinned(ALL, 4, 0, "x"),
                   pinned(0, 3, 4, "x"), pinned(0, 4, 3, ""))
        self.check(CLASHING, -5, world(3), clock(1, 3), clock(3, 1), pinned(3, 0, 0, "0"), pinned(1, 0, 3, "0"))

    def test_not_known(self):
        self.check(HEARD, -6, clock(0, 1), clock(2, 3), pinned(0, 0, 1, "0"), pinned(0, 1, 0, "0"), pinned(2, 3, 3, "x"),
                   pinned(2, 0, 3, ""))
        self.check(CLASHING, -6, clock(1, 2), clock(0, 1), pinned(1, 0, 2, "0"), pinned(1, 2, 0, "x"))

    def test_no_fraction_comes_before_a_contradiction(self):
        self.check(CLASHING, -4, pinned(ALL, 0, 1, "x"), pinned(1, 0, 1, ""), pinned(ALL, 0, 0, "2/4"))

    def test_contradicts(self):
        self.check(CLASHING, -8, world(ALL), world(1), clock(ALL, 0), clock(ALL, 2), clock(1, 0), clock(1, 1),
                   pinned(ALL, 0, 1, "0"), pinned(1, 0, 1, "10"), pinned(ALL, 0, 0, "1"))

    def test_nothing_changes(self):
        calls = [world(ALL), world(1), world(20), clock(0, 0), clock(0, 1), pinned(1, 0, 1, "3"), pinned(1, 0, 1, "9"),
                 pinned(1, 0, 1, "x")]
        found = ask(read("\n".join(HEARD)), TEXT, *calls, TEXT)
        self.assertEqual(found[1], found[-1])


if __name__ == "__main__":
    unittest.main()
