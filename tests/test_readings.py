"""age, over and living: what a node's next reading would say of a parcel."""

import random
import unittest

from tests.asking import (ALL, LAST_READING, LEAST, MOST, TEXT, age, ask, ask_of, ask_one, bounds, closed, life, limits_of,
                          living, over, read, strict, tell)
from tests.plain_model import Model
from tests.test_model import random_lines

# At a next reading c of a the age is above (c - 1) / 2 and below 2 * c + 2.
ONE_CLOCK = ["node a 1/2 2", "node b 1 1", "at a 0", "at a 10"]
# At a next reading c of b the age is above c - 9 and below c - 4.
HEARD = ["node a 1 1", "node b 1 1", "at a 0", "at b 10", "at b 12", "at a 20", "word 0 1 2 5"]
# Node a was cut, and has no event in its last run; b has none at all.
CUT = ["node a 1 1", "node b 1 1", "at a 0", "at a 100", "cut a"]
CLASHING = ["node a 1 1", "node b 1 1", "at a 0", "at a 10", "moment 0 0 0", "moment 1 5 5", "parcel p 0 1"]


def with_life(lines, told, event=0):
    return lines + [f"parcel p {event} {told}"]


class Age(unittest.TestCase):
    def check(self, lines, cases):
        for call, judged, least, greatest in cases:
            self.assertEqual(ask_one(lines, call), [judged] + least + greatest, call)

    def test_one_clock(self):
        self.check(with_life(ONE_CLOCK, 5), [(age(0, 0, 10), 1, strict("9/2"), strict("22")),
                                             (age(0, 0, 11), 2, strict("5"), strict("24")),
                                             (age(0, 0, 12), 2, strict("11/2"), strict("26"))])
        self.check(with_life(ONE_CLOCK, 22), [(age(0, 0, 10), 0, strict("9/2"), strict("22")),
                                              (age(0, 0, 11), 1, strict("5"), strict("24"))])

    def test_same_reading_as_the_parcels_own_event(self):
        # The order alone tells that the event more isn't earlier.
        self.check(with_life(ONE_CLOCK, 3, 1), [(age(0, 0, 10), 0, closed("0"), strict("2")),
                                                (age(0, 0, 11), 1, strict("0"), strict("4"))])
        self.check(with_life(ONE_CLOCK, 2, 1), [(age(0, 0, 10), 0, closed("0"), strict("2"))])
        self.check(with_life(ONE_CLOCK, 1, 1), [(age(0, 0, 10), 1, closed("0"), strict("2"))])

    def test_over_words(self):
        self.check(with_life(HEARD, 3), [(age(0, 1, 12), 2, strict("3"), strict("8")),
                                         (age(0, 1, 13), 2, strict("4"), strict("9")),
                                         (age(0, 0, 20), 2, strict("19"), strict("21"))])
        self.check(with_life(HEARD, 8), [(age(0, 1, 12), 0, strict("3"), strict("8")),
                                         (age(0, 1, 13), 1, strict("4"), strict("9"))])

    def test_a_run_without_events(self):
        for reading in (0, 5, 100, LAST_READING):
            self.check(with_life(CUT, 99), [(age(0, 0, reading), 2, strict("99"), [0]), (age(0, 1, reading), 1, [0], [0])])
            self.check(with_life(CUT, 100), [(age(0, 0, reading), 1, strict("99"), [0])])

    def test_earlier_runs_tell_the_order_alone(self):
        # The age is 1 to 3 at event 1, which is of an earlier run; event 2 is of the last one.
        lines = ["node a 1 1", "node b 1 1", "at b 0", "at a 50", "cut a", "at a 7", "word 0 1 1 3", "parcel p 0 1"]
        self.check(lines, [(age(0, 0, 7), 2, closed("1"), [0]), (age(0, 0, 9), 2, strict("2"), [0])])

    def test_reached_and_open(self):
        # Event 1 is just 10 later than 0, and the event more isn't earlier than that.
        lines = ["node a 1 1", "at a 0", "at a 10", "moment 0 0 0", "moment 1 10 10"]
        self.check(with_life(lines, 10), [(age(0, 0, 10), 2, closed("10"), strict("11")),
                                          (age(0, 0, 11), 2, strict("10"), strict("12"))])
        self.check(with_life(lines, 11), [(age(0, 0, 10), 0, closed("10"), strict("11"))])

    def test_all_that_is_told_counts(self):
        # The moments are those of events that aren't known at any event of b.
        lines = ["node a 1 1", "node b 1 1", "at a 0", "at b 0", "moment 0 5 5", "moment 1 9 9", "parcel p 0 4"]
        self.check(lines, [(age(0, 1, 0), 2, closed("4"), strict("5")), (age(0, 1, 1), 2, strict("4"), strict("6"))])

    def test_twenty_events(self):
        lines = ["node a 1 1"] + [f"at a {time}" for time in range(20)] + ["parcel p 0 19"]
        self.check(lines, [(age(0, 0, 19), 1, strict("18"), strict("20")), (age(0, 0, 20), 2, strict("19"), strict("21"))])
        self.assertEqual(ask_of(lines, over(0, 0), living(0, 0)), [[1, 20], [0]])

    def test_great_numbers(self):
        lines = ["node a 1/1000000 1000000/999999", "at a 0", "parcel p 0 1000000000000"]
        self.check(lines, [(age(0, 0, LAST_READING), 1, strict("999998999999000001/1000000"), strict("1000000000001000000"))])

    def test_as_if_it_were_told(self):
        dice = random.Random(40)
        for time in range(80):
            events = dice.randint(2, 15)
            lines = random_lines(dice, events)
            model = Model(lines)
            number = dice.randrange(len(model.nodes))
            name, least = model.next_readings(number)
            reading = least + dice.choice([0, 1, 2, 5, 30])
            p = dice.randrange(2)
            found = ask_of(lines, age(p, number, reading), tell(f"at {name} {reading}"), life(ALL, p, events),
                           bounds(ALL, model.parcels[p][0], events))
            if found[0] == [-8]:
                self.assertEqual(found[2:], [[-8], [-8]])
            else:
                self.assertEqual(found[0], found[2] + found[3][1:], lines)


class Ends(unittest.TestCase):
    """The least reading of over and the greatest of living."""

    def check(self, lines, number, least, greatest):
        self.assertEqual(ask_of(lines, over(0, number), living(0, number)), [least, greatest], lines)

    def test_one_clock(self):
        for told, least, greatest in ((4, [1, 10], [0]), (5, [1, 11], [0]), (6, [1, 13], [0]), (21, [1, 43], [0]),
                                      (22, [1, 45], [1, 10]), (23, [1, 47], [1, 10]), (24, [1, 49], [1, 11]),
                                      (1000, [1, 2001], [1, 499])):
            self.check(with_life(ONE_CLOCK, told), 0, least, greatest)

    def test_over_words(self):
        self.check(with_life(HEARD, 3), 1, [1, 12], [0])
        self.check(with_life(HEARD, 4), 1, [1, 13], [0])
        self.check(with_life(HEARD, 8), 1, [1, 17], [1, 12])
        self.check(with_life(HEARD, 30), 1, [1, 39], [1, 34])
        self.check(with_life(HEARD, 30), 0, [1, 31], [1, 29])

    def test_just_a_greatest_age(self):
        # Event 0 is 3 later than 1 at least: at a reading c of a the age is below c - 2.
        lines = ["node a 1 1", "node b 1 1", "at b 0", "at a 0", "word 1 0 3 -"]
        self.check(with_life(lines, 1), 0, [0], [1, 3])
        self.assertEqual(ask_one(with_life(lines, 1), age(0, 0, 4)), [1, 0] + strict("2"))

    def test_no_limits(self):
        self.check(with_life(ONE_CLOCK, 1), 1, [0], [0])
        self.check(with_life(CUT, 1), 1, [0], [0])

    def test_a_run_without_events_begins_with_0(self):
        self.check(with_life(CUT, 99), 0, [1, 0], [0])
        self.check(with_life(CUT, 100), 0, [0], [0])

    def test_the_last_reading(self):
        lines = ["node a 1 1", "at a 0"]
        self.check(with_life(lines, 10**12 - 1), 0, [1, 10**12], [1, 10**12 - 2])
        self.check(with_life(lines, 10**12), 0, [0], [1, 10**12 - 1])
        lines = ["node a 999999/1000000 1", "at a 0"]
        self.check(with_life(lines, 10**12), 0, [0], [1, 999998999999])
        lines = ["node a 2 2", "at a 0"]
        self.check(with_life(lines, 10**12), 0, [0], [1, 10**12])
        self.check(with_life(lines, 1), 0, [1, 3], [1, 1])

    def test_no_reading_but_the_last(self):
        lines = ["node a 1 1", "at a 0", "at a 1000000000000"]
        self.check(with_life(lines, 1), 0, [1, 10**12], [0])
        self.check(with_life(lines, 10**12 - 1), 0, [1, 10**12], [0])
        self.check(with_life(lines, 10**12), 0, [0], [0])
        self.check(with_life(lines, 10**12, 1), 0, [0], [1, 10**12])

    def test_beside_age(self):
        dice = random.Random(41)
        kinds = {}
        for time in range(150):
            events = dice.randint(1, 12)
            lines = random_lines(dice, events)
            number = dice.randrange(sum(line.startswith("node") for line in lines))
            p = dice.randrange(2)
            first, last = ask_of(lines, over(p, number), living(p, number))
            if first == [-8]:
                self.assertEqual(last, [-8])
                continue
            least = Model(lines).next_readings(number)[1]
            kinds[first[0], last[0]] = kinds.get((first[0], last[0]), 0) + 1
            with self.subTest(lines=lines, p=p, number=number):
                self.check_over(lines, p, number, least, first)
                self.check_living(lines, p, number, least, last)
        self.assertEqual(sorted(kinds), [(0, 0), (0, 1), (1, 0), (1, 1)])

    def judged(self, lines, p, number, reading):
        return ask_one(lines, age(p, number, reading))[0]

    def check_over(self, lines, p, number, least, answer):
        if answer == [0]:
            self.assertNotEqual(self.judged(lines, p, number, LAST_READING), 2)
            return
        self.assertEqual(self.judged(lines, p, number, answer[1]), 2)
        self.assertEqual(self.judged(lines, p, number, LAST_READING), 2)
        if answer[1] > least:
            self.assertNotEqual(self.judged(lines, p, number, answer[1] - 1), 2)
            self.assertNotEqual(self.judged(lines, p, number, least), 2)

    def check_living(self, lines, p, number, least, answer):
        if answer == [0]:
            self.assertNotEqual(self.judged(lines, p, number, least), 0)
            return
        self.assertEqual(self.judged(lines, p, number, answer[1]), 0)
        self.assertEqual(self.judged(lines, p, number, least), 0)
        if answer[1] < LAST_READING:
            self.assertNotEqual(self.judged(lines, p, number, answer[1] + 1), 0)
            self.assertNotEqual(self.judged(lines, p, number, LAST_READING), 0)


class Refusals(unittest.TestCase):
    def check(self, lines, refusal, *calls):
        self.assertEqual(ask_of(lines, *calls), [[refusal]] * len(calls), calls)

    def test_out_of_range(self):
        for lines in ([], with_life(ONE_CLOCK, 5), CLASHING):
            for wrong in (-1, 10, LEAST, MOST):
                self.check(lines, -3, age(wrong, 0, 10), over(wrong, 0), living(wrong, 0), age(wrong, 5, 0), over(wrong, 5))
            for wrong in (-1, 6, LEAST, MOST):
                self.check(lines, -3, age(0, wrong, 10), over(0, wrong), living(0, wrong), age(9, wrong, 0), living(9, wrong))
            for wrong in (-1, LAST_READING + 1, LEAST, MOST):
                self.check(lines, -3, age(0, 0, wrong), age(9, 0, wrong), age(0, 5, wrong))

    def test_not_there(self):
        for lines in (with_life(ONE_CLOCK, 5), CLASHING):
            self.check(lines, -5, age(1, 0, 10), age(9, 0, 10), age(0, 2, 10), age(0, 5, 10), age(1, 0, 0), over(1, 0),
                       over(0, 2), living(9, 0), living(0, 5))
        self.check([], -5, age(0, 0, 0), over(0, 0), living(0, 0))

    def test_shows_more(self):
        self.check(with_life(ONE_CLOCK, 5), -7, age(0, 0, 0), age(0, 0, 9))
        self.check(CLASHING, -7, age(0, 0, 9))
        # An earlier run's readings don't count, nor those of others.
        lines = ["node a 1 1", "node b 1 1", "at a 9", "cut a", "at a 3", "at b 7", "parcel p 0 1"]
        self.check(lines, -7, age(0, 0, 2), age(0, 1, 6))
        self.assertEqual([found[0] for found in ask_of(lines, age(0, 0, 3), age(0, 1, 7))], [1, 1])

    def test_contradicts(self):
        # Of b, too, since all that's told counts.
        self.check(CLASHING, -8, age(0, 0, 10), age(0, 0, 11), age(0, 1, 0), over(0, 0), over(0, 1), living(0, 0), living(0, 1))

    def test_nothing_changes(self):
        lines = with_life(ONE_CLOCK, 5)
        calls = [age(0, 0, 50), over(0, 0), living(0, 0), age(0, 0, 9), over(1, 0), living(0, 7)]
        found = ask(read("\n".join(lines)), TEXT, *calls, TEXT, tell("at a 10"), bounds(ALL, 0, 2))
        self.assertEqual(found[1], found[8])
        self.assertEqual(found[9], [6])
        self.assertEqual(limits_of(found[10])[1], (22, True))


if __name__ == "__main__":
    unittest.main()
