"""past, needless, could, learned and told."""

import random
import unittest

from tests.asking import (ALL, CLEAR, LAST_READING, LEAST, MOST, NEEDLESS, TEXT, TOLD, ask, ask_of, ask_one, bounds, could,
                          learned, life, past, read, tell)
from tests.test_model import random_lines

THREE = ["node a 1 1", "node b 1 1", "node c 1 1", "at a 0", "at b 0", "at c 0"]
CLASHING = ["node a 1 1", "node b 1 1", "at a 0", "at a 10", "at b 0", "moment 0 0 0", "moment 1 5 5", "parcel p 0 1"]


class Past(unittest.TestCase):
    def check(self, lines, *events):
        for event, known in enumerate(events):
            self.assertEqual(ask_one(lines, past(event)), [0] + known, event)

    def test_earlier_ones_of_the_node(self):
        self.check(["node a 1 1", "node b 1 1", "at a 0", "at b 0", "cut a", "at a 0", "at b 5", "at a 9"],
                   [0], [1], [0, 2], [1, 3], [0, 2, 4])

    def test_words(self):
        lines = ["node a 1 1", "node b 1 1", "at a 0", "at b 10", "at b 12", "at a 20", "word 0 1 2 5"]
        self.check(lines, [0], [0, 1], [0, 1, 2], [0, 3])
        self.check(lines + ["word 2 3 0 -"], [0], [0, 1], [0, 1, 2], [0, 1, 2, 3])

    def test_words_from_later_numbers(self):
        self.check(THREE + ["word 2 1 0 -", "word 1 0 0 -"], [0, 1, 2], [1, 2], [2])
        self.check(THREE + ["word 0 1 0 -", "word 1 0 0 -"], [0, 1], [0, 1], [2])

    def test_where_it_contradicts(self):
        self.check(CLASHING, [0], [0, 1], [2])

    def test_twenty_events(self):
        lines = ["node a 1 1"] + ["at a 0"] * 20
        self.check(lines, *[list(range(event + 1)) for event in range(20)])

    def test_refusals(self):
        for wrong in (-1, 20, LEAST, MOST):
            self.assertEqual(ask_of(THREE, past(wrong)), [[-3]])
        self.assertEqual(ask_of(THREE, past(3), past(19)), [[-5], [-5]])
        self.assertEqual(ask(past(0), past(20)), [[-5], [-3]])


class Needless(unittest.TestCase):
    def check(self, lines, words, moments=()):
        self.assertEqual(ask_one(lines, NEEDLESS), [len(words)] + words + list(moments), lines)

    def test_none(self):
        self.assertEqual(ask(NEEDLESS), [[0]])
        self.check(THREE, [])
        self.check(THREE + ["word 0 1 2 5", "word 1 2 2 5", "moment 0 3 9"], [])

    def test_looser_ones(self):
        self.check(THREE + ["word 0 1 2 5", "word 0 1 1 6"], [1])
        self.check(THREE + ["word 0 1 1 6", "word 0 1 2 5"], [0])
        self.check(THREE + ["word 0 1 1 5", "word 0 1 2 6"], [])
        self.check(THREE + ["word 0 1 2 -", "word 0 1 2 5"], [0])
        self.check(THREE + ["moment 0 2 5", "moment 0 1 -"], [], [1])
        self.check(THREE + ["moment 0 2 -", "moment 0 1 9", "moment 0 2 8"], [], [0, 1])

    def test_twice_the_same_are_both_needless(self):
        self.check(THREE + ["word 0 1 2 5", "word 0 1 2 5"], [0, 1])
        self.check(THREE + ["moment 1 2 5", "moment 1 2 5", "moment 1 2 5"], [], [0, 1, 2])
        self.check(THREE + ["word 0 1 2 5", "word 1 2 0 0", "word 0 1 2 5", "moment 1 4 4"], [0, 2])

    def test_by_chains(self):
        self.check(THREE + ["word 0 1 1 2", "word 1 2 1 2", "word 0 2 2 4"], [2])
        self.check(THREE + ["word 0 1 1 2", "word 1 2 1 2", "word 0 2 1 5"], [2])
        self.check(THREE + ["word 0 1 1 2", "word 1 2 1 2", "word 0 2 3 4"], [])
        self.check(THREE + ["word 0 1 1 2", "word 1 2 1 2", "word 0 2 0 3"], [])
        self.check(THREE + ["moment 0 5 5", "moment 1 9 9", "word 0 1 4 4"], [0], [0, 1])
        self.check(THREE + ["moment 0 5 5", "moment 1 9 9", "word 0 1 3 6"], [0], [])

    def test_one_end_is_enough_to_be_needed(self):
        self.check(THREE + ["moment 0 5 5", "moment 1 9 9", "word 0 1 4 4", "moment 2 7 -"], [0], [0, 1])
        self.check(THREE + ["moment 0 5 8", "moment 0 5 7", "moment 0 6 9"], [], [0])

    def test_by_clocks(self):
        # The clock lets above 4 and below 6, and the order 0 at least.
        lines = ["node a 1 1", "node b 1 1", "at a 0", "at a 5", "at b 0", "word 0 2 0 0"]
        self.check(lines + ["word 2 1 4 6"], [1])
        self.check(lines + ["word 2 1 0 -"], [1])
        self.check(lines + ["word 2 1 4 5"], [])
        self.check(lines + ["word 2 1 5 6"], [])

    def test_reached_and_open_are_not_the_same(self):
        # The word from 1 to 2 makes the limit from 0 to 2 open; its number is that of the other word.
        lines = ["node a 1 1", "node b 1 1", "at a 0", "at a 1", "at b 0", "word 0 2 0 3", "word 1 2 0 1"]
        self.check(lines, [0])

    def test_a_parcel_is_no_word(self):
        self.check(THREE + ["parcel p 0 1", "word 0 1 0 -", "parcel q 0 1", "moment 0 0 -", "word 0 1 0 -"], [0, 1], [])

    def test_a_moment_not_before_0(self):
        # Nothing but the moment tells that the event isn't before moment 0.
        self.check(THREE + ["moment 0 0 -"], [], [])
        self.check(THREE + ["moment 0 0 -", "moment 0 3 -"], [], [0])

    def test_contradicts(self):
        self.assertEqual(ask_of(CLASHING, NEEDLESS, NEEDLESS), [[-8], [-8]])

    def test_beside_bounds_with_it_left_out(self):
        dice = random.Random(50)
        kinds = {True: 0, False: 0}
        for time in range(250):
            events = dice.randint(2, 7)
            lines = [line for line in random_lines(dice, events) if not line.startswith("parcel")]
            # Event 0 is at moment 0, so that bounds between events are those of the point -1 too.
            lines = ["node zero 1 1", "at zero 0"] + [shift(line) for line in lines] + ["moment 0 0 0"]
            answer = ask_one(lines, NEEDLESS)
            if answer == [-8]:
                continue
            words, moments = answer[1:1 + answer[0]], answer[1 + answer[0]:]
            calls = [bounds(ALL, e, f) for e in range(events + 1) for f in range(e)]
            whole = ask_of(lines, *calls)
            for kind, found in (("word ", words), ("moment ", moments)):
                places = [place for place, line in enumerate(lines) if line.startswith(kind)]
                if kind == "moment ":
                    # Without the last one event 0 no longer stands for the point -1.
                    self.assertNotIn(len(places) - 1, found)
                    places.pop()
                for number, place in enumerate(places):
                    same = ask_of(lines[:place] + lines[place + 1:], *calls) == whole
                    self.assertEqual(number in found, same, (lines, number))
                    kinds[same] += 1
        self.assertTrue(min(kinds.values()) > 20, kinds)


def shift(line):
    """The line with all events' numbers one greater."""
    parts = line.split(" ")
    for place in {"word": (1, 2), "moment": (1,)}.get(parts[0], ()):
        parts[place] = str(int(parts[place]) + 1)
    return " ".join(parts)


class Could(unittest.TestCase):
    def check(self, lines, event, number, readings, *others):
        """That the clock may show just these readings, of them and the others."""
        for reading in readings:
            self.assertEqual(ask_one(lines, could(event, number, reading)), [1], (event, reading))
        for reading in others:
            self.assertEqual(ask_one(lines, could(event, number, reading)), [0], (event, reading))

    def test_between_two_events(self):
        lines = ["node a 1 1", "node b 1 1", "at a 0", "at a 10", "at b 0", "word 0 2 5 5"]
        self.check(lines, 2, 0, [5], 0, 1, 4, 6, 9, 10, 11, LAST_READING)
        lines[-1] = "word 0 2 4 6"
        self.check(lines, 2, 0, [4, 5, 6], 3, 7)

    def test_fast_or_slow(self):
        lines = ["node a 1/2 2", "node b 1 1", "at a 0", "at b 0", "word 0 1 5 5"]
        # From 0 up to below 1 at first, then 5/2 to 10 more.
        self.check(lines, 1, 0, list(range(2, 11)), 0, 1, 11, 12)

    def test_before_and_behind(self):
        lines = ["node a 1 1", "node b 1 1", "at a 10", "at b 0", "at b 6", "word 1 0 3 3", "word 0 2 3 3"]
        self.check(lines, 1, 0, [7], 5, 6, 8, 9, 10)
        self.check(lines, 2, 0, [13], 10, 11, 12, 14, 15)

    def test_alike(self):
        lines = ["node a 1/2 2", "node b 1 1", "at a 5", "at b 0"]
        for word, answer in (("word 0 1 1 1", 1), ("word 0 1 2 2", 0), ("word 1 0 1 1", 1), ("word 1 0 2 2", 0),
                             ("word 0 1 0 0", 1)):
            self.assertEqual(ask_one(lines + [word], could(1, 0, 5)), [answer], word)

    def test_no_limits(self):
        lines = ["node a 1 1", "node b 1 1", "at a 10", "at b 0"]
        self.check(lines, 1, 0, [0, 9, 10, 11, LAST_READING])
        self.check(lines[:-1], 0, 1, [0, 7, LAST_READING])

    def test_its_own_clock(self):
        lines = ["node a 1 1", "at a 5", "at a 9"]
        self.check(lines, 0, 0, [5], 4, 6, 9, 0)
        self.check(lines, 1, 0, [9], 5, 8, 10)

    def test_only_the_last_run(self):
        # Event 0 is of an earlier run; the last one may begin at its moment, with any value that it still can have.
        lines = ["node a 1 1", "node b 1 1", "at a 5", "cut a", "at a 3"]
        self.check(lines, 0, 0, [0, 1, 2, 3], 4, 5)
        self.check(lines, 1, 0, [3], 2, 4, 5)

    def test_not_before_an_earlier_run(self):
        lines = ["node a 1 1", "node b 1 1", "at a 5", "cut a", "at b 0"]
        self.check(lines + ["word 1 0 1 -"], 1, 0, [], 0, 5, 9)
        self.check(lines + ["word 1 0 0 -"], 1, 0, [0, 5, 9])
        self.check(lines + ["word 0 1 1 -"], 1, 0, [0, 5, 9])
        # Also of a run before the last but one, and of its own earlier events.
        lines = ["node a 1 1", "at a 5", "cut a", "at a 5", "cut a", "moment 0 1 1"]
        self.check(lines + ["moment 1 2 2"], 0, 0, [], 0, 5)
        self.check(lines + ["moment 1 2 2"], 1, 0, [0, 5])
        self.check(lines + ["moment 1 1 1"], 0, 0, [0, 5])

    def test_open(self):
        # At c the clock's value is at least c, and below c + 1.
        lines = ["node a 1 1", "node b 1 1", "at a 0", "at b 0", "moment 0 100 100"]
        self.check(lines + ["moment 1 103 103"], 1, 0, [3], 2, 4)
        lines[0] = "node a 1 2"
        self.check(lines + ["moment 1 103 103"], 1, 0, [3, 4, 5, 6], 2, 7)

    def test_refusals(self):
        for lines in ([], THREE, CLASHING):
            for wrong in (-1, 20, LEAST, MOST):
                self.assertEqual(ask_of(lines, could(wrong, 0, 0), could(wrong, 5, 0)), [[-3], [-3]])
            for wrong in (-1, 6, LEAST, MOST):
                self.assertEqual(ask_of(lines, could(0, wrong, 0), could(19, wrong, 0)), [[-3], [-3]])
            for wrong in (-1, LAST_READING + 1, LEAST, MOST):
                self.assertEqual(ask_of(lines, could(0, 0, wrong), could(19, 5, wrong)), [[-3], [-3]])
        self.assertEqual(ask_of(THREE, could(3, 0, 0), could(0, 3, 0), could(19, 5, LAST_READING)), [[-5]] * 3)
        self.assertEqual(ask_of(CLASHING, could(3, 0, 0), could(0, 2, 0)), [[-5]] * 2)
        self.assertEqual(ask_of(CLASHING, could(0, 0, 0), could(2, 1, 0), could(2, 0, 5)), [[-8]] * 3)
        self.assertEqual(ask(could(0, 0, 0)), [[-5]])

    def test_nothing_changes(self):
        lines = ["node a 1 1", "node b 1 1", "at a 0", "at b 0"]
        found = ask(read("\n".join(lines)), bounds(ALL, 0, 1), could(1, 0, 5), bounds(ALL, 0, 1), could(1, 0, 50), TEXT)
        self.assertEqual(found[1], found[3])
        self.assertEqual([found[2], found[4]], [[1], [1]])


class Learned(unittest.TestCase):
    def test_the_first_event(self):
        # At a's next events the age is above 4, 9 and 14.
        lines = ["node a 1 1", "node b 1 1", "at a 0", "at a 5", "at a 10", "at a 15"]
        for told, answer in ((1, [1, 1]), (4, [1, 1]), (5, [1, 2]), (9, [1, 2]), (10, [1, 3]), (14, [1, 3]), (15, [0])):
            self.assertEqual(ask_one(lines + [f"parcel p 0 {told}"], learned(0, 0)), answer, told)

    def test_of_another_node(self):
        lines = ["node a 1 1", "node b 1 1", "at a 0", "at b 0", "at b 0", "at b 9", "at a 40", "word 0 2 3 -", "parcel p 0 3"]
        self.assertEqual(ask_of(lines, learned(0, 1), learned(0, 0)), [[1, 2], [1, 4]])
        # Event 1 had not heard of the parcel; now it has, but not that it's over.
        self.assertEqual(ask_one(lines + ["word 0 1 0 -"], learned(0, 1)), [1, 2])
        self.assertEqual(ask_one(lines + ["word 0 1 3 -"], learned(0, 1)), [1, 1])

    def test_only_as_known_there(self):
        # By all that's told the parcel is over at 1 already, but that's known at 2 alone.
        lines = ["node a 1 1", "node b 1 1", "at a 0", "at b 0", "at b 0", "word 0 1 2 9", "moment 0 50 50", "moment 2 59 59",
                 "parcel p 0 8"]
        self.assertEqual(ask_of(lines, life(ALL, 0, 1), life(1, 0, 1), learned(0, 1)), [[2], [1], [1, 2]])

    def test_not_known(self):
        lines = ["node a 1 1", "node b 1 1", "at a 0", "at b 0", "moment 0 0 0", "moment 1 90 90", "parcel p 0 1"]
        self.assertEqual(ask_of(lines, life(ALL, 0, 1), learned(0, 1), learned(0, 0)), [[2], [0], [0]])

    def test_no_events(self):
        self.assertEqual(ask_one(["node a 1 1", "node b 1 1", "at a 0", "parcel p 0 1"], learned(0, 1)), [0])

    def test_contradictions_are_passed_over(self):
        # What's known at 1, and from then on, contradicts; at 0 it doesn't, but the parcel isn't over there.
        self.assertEqual(ask_of(CLASHING, learned(0, 0), learned(0, 1)), [[0], [0]])
        # All that's told contradicts, but not what's known at b's event.
        self.assertEqual(ask_one(CLASHING + ["word 0 2 1 -"], learned(0, 1)), [1, 2])
        # It's known to be over at 1; from 2 on what's known contradicts.
        lines = ["node a 1 1", "at a 0", "at a 10", "at a 10", "moment 2 0 0", "moment 0 1 1", "parcel p 0 5", "parcel q 0 50"]
        self.assertEqual(ask_of(lines, learned(0, 0), learned(1, 0)), [[1, 1], [0]])

    def test_refusals(self):
        for lines in ([], THREE, CLASHING):
            for wrong in (-1, 10, LEAST, MOST):
                self.assertEqual(ask_of(lines, learned(wrong, 0), learned(wrong, 5)), [[-3], [-3]])
            for wrong in (-1, 6, LEAST, MOST):
                self.assertEqual(ask_of(lines, learned(0, wrong), learned(9, wrong)), [[-3], [-3]])
        self.assertEqual(ask_of(CLASHING, learned(1, 0), learned(9, 0), learned(0, 2), learned(0, 5)), [[-5]] * 4)
        self.assertEqual(ask(learned(0, 0)), [[-5]])


class Told(unittest.TestCase):
    def test_counts(self):
        lines = ["node a 1 1", "node b 1 1", "at a 0", "at b 0", "cut a", "at a 0", "at a 0", "word 0 1 0 -", "moment 0 0 0",
                 "moment 0 0 0", "moment 0 0 0", "cut b", "parcel p 0 1", "parcel q 0 1", "parcel r 0 1", "parcel s 0 1",
                 "parcel t 0 1"]
        self.assertEqual(ask_one(lines, TOLD), [2, 4, 1, 3, 5, 17])

    def test_nothing(self):
        self.assertEqual(ask(TOLD), [[0] * 6])

    def test_it_goes_along(self):
        found = ask(tell("node a 1 1"), TOLD, tell("cut a"), TOLD, tell("cut z"), TOLD, tell("at a 5"), TOLD, CLEAR, TOLD)
        self.assertEqual(found[1::2], [[1, 0, 0, 0, 0, 1], [1, 0, 0, 0, 0, 2], [1, 0, 0, 0, 0, 2], [1, 1, 0, 0, 0, 3], [0] * 6])

    def test_where_it_contradicts(self):
        self.assertEqual(ask_one(CLASHING, TOLD), [2, 3, 0, 2, 1, 8])


if __name__ == "__main__":
    unittest.main()
