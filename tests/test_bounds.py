"""bounds, shows, order and life, and the refusals that they share."""

import unittest

from tests.asking import (ALL, LEAST, MOST, TEXT, ask, ask_of, ask_one, bounds, chain, clash, closed, life, order, read, shows,
                          strict)


ONE_CLOCK = ["node a 1/2 2", "at a 3", "at a 7"]
# Event 3 is known at no other one; at 2 (of b) the events 0 and 1 are known, at 0 it alone.
HEARD = ["node a 1 1", "node b 1 1", "at a 0", "at b 10", "at b 12", "at a 20", "word 0 1 2 5", "parcel p 0 3",
         "parcel q 3 3"]
# What's known at 0 doesn't contradict, what's known at 1 does, and 2 is known at neither.
CLASHING = ["node a 1 1", "node b 1 1", "at a 0", "at a 10", "at b 0", "moment 0 0 0", "moment 1 5 5",
            "parcel p 0 1", "parcel q 2 1"]


class Bounds(unittest.TestCase):
    def check(self, lines, cases):
        for call, least, greatest in cases:
            self.assertEqual(ask_one(lines, call), [0] + least + greatest, call)

    def test_clock_bounds_are_open(self):
        self.check(ONE_CLOCK, [(bounds(ALL, 0, 1), strict("3/2"), strict("10")),
                               (bounds(ALL, 1, 0), strict("-10"), strict("-3/2")),
                               (bounds(ALL, 0, 0), closed("0"), closed("0"))])

    def test_same_reading(self):
        self.check(["node a 1/3 2", "at a 4", "at a 4"], [(bounds(ALL, 0, 1), closed("0"), strict("3")),
                                                         (bounds(ALL, 1, 0), strict("-3"), closed("0"))])

    def test_next_reading(self):
        self.check(["node a 1/3 2", "at a 4", "at a 5"], [(bounds(ALL, 0, 1), strict("0"), strict("6"))])

    def test_no_limit(self):
        self.check(["node a 1 1", "node b 1 1", "at a 0", "at b 0"], [(bounds(ALL, 0, 1), [0], [0])])

    def test_no_greatest_behind_a_cut(self):
        lines = ["node a 1 1", "at a 5", "cut a", "at a 0"]
        self.check(lines, [(bounds(ALL, 0, 1), closed("0"), [0]), (bounds(ALL, 1, 0), [0], closed("0"))])

    def test_several_runs(self):
        lines = ["node a 1 1", "at a 5", "at a 9", "cut a", "cut a", "at a 0", "at a 7", "cut a", "at a 7"]
        self.check(lines, [(bounds(ALL, 0, 1), strict("3"), strict("5")), (bounds(ALL, 2, 3), strict("6"), strict("8")),
                           (bounds(ALL, 0, 3), strict("9"), [0]), (bounds(ALL, 3, 4), closed("0"), [0])])

    def test_clock_that_goes_through_another_event(self):
        # Three readings give no more than the first and the last of them.
        self.check(["node a 1 1", "at a 0", "at a 5", "at a 10"], [(bounds(ALL, 0, 2), strict("9"), strict("11"))])

    def test_word(self):
        lines = ["node a 1 1", "node b 1 1", "at a 0", "at b 0", "word 0 1 3 8"]
        self.check(lines, [(bounds(ALL, 0, 1), closed("3"), closed("8")), (bounds(ALL, 1, 0), closed("-8"), closed("-3"))])
        lines[-1] = "word 0 1 3 -"
        self.check(lines, [(bounds(ALL, 0, 1), closed("3"), [0]), (bounds(ALL, 1, 0), [0], closed("-3"))])
        lines[-1] = "word 1 0 0 0"
        self.check(lines, [(bounds(ALL, 0, 1), closed("0"), closed("0"))])

    def test_tightest_of_several(self):
        lines = ["node a 1 1", "node b 1 1", "at a 0", "at b 0", "word 0 1 3 8", "word 0 1 1 7", "word 0 1 4 -",
                 "word 1 0 0 -", "moment 0 0 -"]
        self.assertEqual(ask_one(lines, bounds(ALL, 0, 1)), [-8])
        self.check(lines[:-2], [(bounds(ALL, 0, 1), closed("4"), closed("7"))])

    def test_moments(self):
        lines = ["node a 1 1", "node b 1 1", "at a 0", "at b 0", "moment 0 5 6", "moment 1 9 12"]
        self.check(lines, [(bounds(ALL, 0, 1), closed("3"), closed("7"))])
        self.check(lines[:-1] + ["moment 1 9 -"], [(bounds(ALL, 0, 1), closed("3"), [0])])
        self.check(lines + ["moment 1 7 10", "moment 0 0 -"], [(bounds(ALL, 0, 1), closed("3"), closed("5"))])

    def test_open_by_one_open_step(self):
        lines = ["node a 1 1", "node b 1 1", "at a 0", "at a 10", "at b 0", "word 1 2 3 4"]
        self.check(lines, [(bounds(ALL, 0, 2), strict("12"), strict("15"))])

    def test_reached_beats_open_of_a_greater_number_alone(self):
        # The clock lets less than 11; the moments let 10, then 11 and 12.
        lines = ["node a 1 1", "at a 0", "at a 10", "moment 0 100 100"]
        self.check(lines + ["moment 1 0 110"], [(bounds(ALL, 0, 1), strict("9"), closed("10"))])
        self.check(lines + ["moment 1 0 111"], [(bounds(ALL, 0, 1), strict("9"), strict("11"))])
        self.check(lines + ["moment 1 0 112"], [(bounds(ALL, 0, 1), strict("9"), strict("11"))])
        self.check(lines + ["moment 1 109 -"], [(bounds(ALL, 0, 1), strict("9"), strict("11"))])
        self.check(lines + ["moment 1 110 -"], [(bounds(ALL, 0, 1), closed("10"), strict("11"))])

    def test_fractions_in_lowest_terms(self):
        lines = ["node a 6/5 9/4", "node b 7/3 7/2", "at a 0", "at a 8", "at b 0", "at b 20", "word 1 2 0 0"]
        self.check(lines, [(bounds(ALL, 0, 1), strict("28/9"), strict("15/2")),
                           (bounds(ALL, 2, 3), strict("38/7"), strict("9")),
                           (bounds(ALL, 0, 3), strict("538/63"), strict("33/2")),
                           (bounds(ALL, 3, 0), strict("-33/2"), strict("-538/63"))])

    def test_great_numbers(self):
        lines = ["node a 1/1000000 1000000/999999", "at a 0", "at a 1000000000000"]
        self.check(lines, [(bounds(ALL, 0, 1), strict("999998999999000001/1000000"), strict("1000000000001000000"))])

    def test_as_known(self):
        self.check(HEARD, [(bounds(2, 0, 2), strict("3"), strict("8")), (bounds(1, 0, 1), closed("2"), closed("5")),
                           (bounds(0, 0, 0), closed("0"), closed("0")), (bounds(3, 0, 3), strict("19"), strict("21")),
                           (bounds(ALL, 1, 3), strict("14"), strict("19"))])

    def test_a_word_to_an_unknown_event_does_not_count(self):
        # All that's told: 1 hears of 0, and 2 tells when both happened; at 1 that isn't known.
        lines = ["node a 1 1", "node b 1 1", "node c 1 1", "at a 0", "at b 0", "at c 0", "word 0 1 0 -", "word 0 2 4 4",
                 "word 1 2 1 1"]
        self.check(lines, [(bounds(ALL, 0, 1), closed("3"), closed("3")), (bounds(1, 0, 1), closed("0"), [0]),
                           (bounds(2, 0, 1), closed("3"), closed("3"))])

    def test_moments_of_unknown_events_do_not_count(self):
        lines = ["node a 1 1", "at a 0", "at a 10", "moment 0 5 5", "moment 1 15 15"]
        self.check(lines, [(bounds(ALL, 0, 1), closed("10"), closed("10")), (bounds(0, 0, 0), closed("0"), closed("0"))])
        lines = ["node a 1 1", "node b 1 1", "at a 0", "at b 0", "at b 10", "word 0 1 0 -", "moment 0 5 5", "moment 2 15 15"]
        self.check(lines, [(bounds(1, 0, 1), closed("0"), [0]), (bounds(ALL, 0, 1), closed("0"), strict("1")),
                           (bounds(2, 0, 1), closed("0"), strict("1"))])

    def test_known_by_words_over_several_nodes(self):
        lines = ["node a 1 1", "node b 1 1", "node c 1 1", "at a 0", "at a 4", "at b 0", "at c 0", "at c 1", "at b 9",
                 "word 1 2 1 2", "word 2 3 1 2"]
        self.check(lines, [(bounds(4, 0, 4), strict("5"), strict("11"))])
        self.assertEqual(ask_of(lines, bounds(4, 0, 5), bounds(2, 0, 3), bounds(1, 2, 0), bounds(0, 0, 1)), [[-6]] * 4)

    def test_words_in_a_circle(self):
        lines = ["node a 1 1", "node b 1 1", "at a 0", "at b 0", "word 0 1 0 -", "word 1 0 0 -"]
        self.check(lines, [(bounds(0, 0, 1), closed("0"), closed("0")), (bounds(1, 0, 1), closed("0"), closed("0"))])

    def test_twenty_events(self):
        lines = ["node a 1 1", "node b 1 1"] + ["at a " + str(time) for time in range(10)]
        lines += ["at b " + str(time) for time in range(10)] + ["word 9 10 2 3"]
        self.check(lines, [(bounds(ALL, 0, 19), strict("18"), strict("23")), (bounds(19, 0, 19), strict("18"), strict("23"))])


class Refusals(unittest.TestCase):
    def check_all(self, lines, triple, refusal):
        found = ask_of(lines, bounds(*triple), chain(*triple), order(*triple))
        self.assertEqual(found, [[refusal]] * 3, triple)

    def test_out_of_range(self):
        for wrong in (-2, 20, 21, LEAST, MOST):
            self.check_all(HEARD, (wrong, 0, 0), -3)
            self.check_all([], (wrong, 0, 0), -3)
            self.assertEqual(ask_of(HEARD, shows(wrong, [0]), shows(wrong, []), clash(wrong), life(wrong, 0, 0)), [[-3]] * 4)
        for wrong in (-1, 20, LEAST, MOST):
            self.check_all(HEARD, (ALL, wrong, 0), -3)
            self.check_all(HEARD, (ALL, 0, wrong), -3)
            self.check_all(HEARD, (19, 0, wrong), -3)
            self.assertEqual(ask_one(HEARD, life(ALL, 0, wrong)), [-3])
        for wrong in (-1, 10, LEAST, MOST):
            self.assertEqual(ask_of(HEARD, life(ALL, wrong, 0), life(19, wrong, 19)), [[-3], [-3]])

    def test_not_there(self):
        for triple in ((4, 0, 0), (19, 0, 0), (ALL, 4, 0), (ALL, 0, 4), (ALL, 19, 19), (0, 4, 3), (0, 3, 4)):
            self.check_all(HEARD, triple, -5)
        self.check_all([], (ALL, 0, 0), -5)
        self.assertEqual(ask_of(HEARD, shows(4, []), shows(19, [0]), clash(4), life(4, 0, 0), life(ALL, 2, 0),
                                life(ALL, 9, 0), life(ALL, 0, 4), life(0, 0, 4), life(0, 2, 3)), [[-5]] * 9)

    def test_not_known(self):
        for triple in ((0, 0, 1), (0, 1, 0), (0, 3, 3), (2, 0, 3), (2, 3, 0), (1, 1, 2), (1, 2, 1), (3, 1, 0)):
            self.check_all(HEARD, triple, -6)
        self.assertEqual(ask_of(HEARD, life(0, 0, 1), life(2, 1, 2), life(2, 0, 3), life(1, 1, 3)), [[-6]] * 4)

    def test_contradicts(self):
        self.check_all(CLASHING, (ALL, 0, 0), -8)
        self.check_all(CLASHING, (ALL, 2, 2), -8)
        self.check_all(CLASHING, (1, 0, 1), -8)
        self.check_all(CLASHING, (1, 0, 2), -6)
        self.check_all(CLASHING, (1, 2, 0), -6)
        self.check_all(CLASHING, (1, 0, 3), -5)
        self.check_all(CLASHING, (1, 0, 20), -3)
        self.assertEqual(ask_of(CLASHING, life(ALL, 0, 0), life(1, 0, 0), life(1, 1, 0), life(1, 0, 2), life(0, 0, 0)),
                         [[-8], [-8], [-6], [-6], [0]])
        self.assertEqual(ask_of(CLASHING, bounds(0, 0, 0), bounds(2, 2, 2), order(0, 0, 0), chain(0, 0, 0)),
                         [[0] + closed("0") * 2, [0] + closed("0") * 2, [2], [1, 0]])

    def test_refusals_change_nothing(self):
        page = "\n".join(HEARD)
        found = ask(read(page), TEXT, bounds(20, 0, 0), bounds(9, 0, 0), bounds(0, 1, 1), shows(ALL, []), TEXT)
        self.assertEqual(found[1], found[6])
        self.assertEqual(found[2:6], [[-3], [-5], [-6], [-4]])


class Shows(unittest.TestCase):
    def test_one_point(self):
        self.assertEqual(ask_of(HEARD, shows(ALL, [-1]), shows(ALL, [3]), shows(0, [0])), [[0] + closed("0")] * 3)
        self.assertEqual(ask(shows(ALL, [-1])), [[0] + closed("0")])

    def test_steps_added(self):
        lines = ["node a 1/2 2", "node b 1 1", "at a 3", "at a 7", "at b 0", "word 1 2 3 8", "moment 0 5 -"]
        cases = [([0, 1], strict("10")), ([1, 0], strict("-3/2")), ([0, 1, 2], strict("18")), ([2, 1], closed("-3")),
                 ([2, 1, 0], strict("-9/2")), ([2, 1, 0, -1], strict("-19/2")), ([0, -1], closed("-5")), ([1, 2], closed("8")),
                 ([1, 2, 1], closed("5")), ([0, 0], closed("0")), ([0, 0, 1, 1], strict("10")), ([0, 1, 0], strict("17/2")),
                 ([-1, -1, -1], closed("0")), ([-1, 0], [0]), ([0, 2], [0]), ([2, 0], [0]), ([0, -1, 0], [0]),
                 ([1, 2, 0, 1], [0])]
        for points, limit in cases:
            self.assertEqual(ask_one(lines, shows(ALL, points)), [0] + limit, points)

    def test_tightest_step_counts(self):
        lines = ["node a 1 1", "node b 1 1", "at a 0", "at b 0", "at b 0", "word 0 1 1 9", "word 0 1 2 -", "word 0 1 0 7"]
        found = ask_of(lines, shows(ALL, [0, 1]), shows(ALL, [1, 0]), shows(ALL, [2, 1]), shows(ALL, [1, 2]))
        self.assertEqual(found, [[0] + closed("7"), [0] + closed("-2"), [0] + closed("0"), [0] + strict("1")])

    def test_a_step_and_not_the_limit(self):
        lines = ["node a 1 1", "node b 1 1", "node c 1 1", "at a 0", "at b 0", "at c 0", "word 0 1 1 2", "word 1 2 1 2",
                 "word 0 2 0 9"]
        self.assertEqual(ask_of(lines, shows(ALL, [0, 2]), shows(ALL, [0, 1, 2])), [[0] + closed("9"), [0] + closed("4")])

    def test_order_step_of_one_node_over_cuts(self):
        lines = ["node a 1 1", "at a 5", "cut a", "at a 3"]
        self.assertEqual(ask_of(lines, shows(ALL, [1, 0]), shows(ALL, [0, 1])), [[0] + closed("0"), [0, 0]])

    def test_no_points(self):
        for points in ([], [0] * 41, [0] * 2000, [-2], [4], [0, 4], [19], [20], [LEAST], [MOST], [0, -2], [-2, 0]):
            self.assertEqual(ask_one(HEARD, shows(ALL, points)), [-4], points)
        for points in ([1], [3], [0, 1], [-1, 2], [-1, 4]):
            self.assertEqual(ask_one(HEARD, shows(0, points)), [-4], points)
        self.assertEqual(ask_of(HEARD, shows(ALL, [0] * 40), shows(2, [-1])), [[0] + closed("0")] * 2)

    def test_shows_where_it_contradicts(self):
        self.assertEqual(ask_of(CLASHING, shows(ALL, [-1, 1, 0, -1]), shows(1, [0, -1, 1])),
                         [[0] + strict("-4"), [0] + closed("5")])

    def test_as_known(self):
        self.assertEqual(ask_of(HEARD, shows(1, [0, 1]), shows(1, [1, 0]), shows(1, [-1, 0])),
                         [[0] + closed("5"), [0] + closed("-2"), [0, 0]])


class Order(unittest.TestCase):
    def word_order(self, least, greatest):
        lines = ["node a 1 1", "node b 1 1", "at a 0", "at b 0", "moment 0 100 100", "moment 1 " + least + " " + greatest]
        return [found[0] for found in ask_of(lines, order(ALL, 0, 1), order(ALL, 1, 0))]

    def test_reached(self):
        self.assertEqual(self.word_order("101", "102"), [1, 4])
        self.assertEqual(self.word_order("100", "102"), [3, 6])
        self.assertEqual(self.word_order("100", "100"), [2, 2])
        self.assertEqual(self.word_order("99", "101"), [7, 7])
        self.assertEqual(self.word_order("99", "100"), [6, 3])
        self.assertEqual(self.word_order("98", "99"), [4, 1])
        self.assertEqual(self.word_order("99", "-"), [7, 7])
        self.assertEqual(self.word_order("100", "-"), [3, 6])
        self.assertEqual(self.word_order("101", "-"), [1, 4])

    def test_no_limit(self):
        self.assertEqual(ask_one(["node a 1 1", "node b 1 1", "at a 0", "at b 0"], order(ALL, 0, 1)), [7])

    def test_itself(self):
        self.assertEqual(ask_one(ONE_CLOCK, order(ALL, 1, 1)), [2])

    def test_one_node(self):
        lines = ["node a 1 1", "at a 4", "at a 4", "at a 5", "cut a", "at a 4"]
        self.assertEqual(ask_of(lines, order(ALL, 0, 1), order(ALL, 1, 0), order(ALL, 1, 2), order(ALL, 2, 1),
                                order(ALL, 2, 3), order(ALL, 3, 2)), [[3], [6], [1], [4], [3], [6]])

    def test_open_at_zero(self):
        # Of a's events the second one is later by more than 0; b's is at least as late as that, or just at it.
        lines = ["node a 1 1", "node b 1 1", "at a 4", "at a 5", "at b 0", "word 1 2 0 -"]
        self.assertEqual(ask_of(lines, order(ALL, 0, 2), order(ALL, 2, 0), order(ALL, 1, 2)), [[1], [4], [3]])
        # Less than 2 later by the clock, just 2 earlier by the word: surely earlier.
        lines = ["node a 1 1", "node b 1 1", "at a 4", "at a 5", "at b 0", "word 2 1 2 2"]
        self.assertEqual(ask_of(lines, order(ALL, 0, 2), order(ALL, 2, 0)), [[4], [1]])

    def test_as_known(self):
        lines = ["node a 1 1", "node b 1 1", "at a 0", "at b 0", "at b 9", "word 0 1 0 -", "word 0 2 3 -"]
        self.assertEqual(ask_of(lines, order(1, 0, 1), order(2, 0, 2), order(0, 0, 0)), [[3], [1], [2]])


class Life(unittest.TestCase):
    def lives(self, least, greatest, life_told="10"):
        lines = ["node a 1 1", "node b 1 1", "at a 0", "at b 0", "moment 0 100 100", "moment 1 " + least + " " + greatest,
                 "parcel p 0 " + life_told]
        return ask_one(lines, life(ALL, 0, 1))[0]

    def test_reached(self):
        self.assertEqual(self.lives("110", "111"), 2)
        self.assertEqual(self.lives("110", "-"), 2)
        self.assertEqual(self.lives("109", "110"), 1)
        self.assertEqual(self.lives("109", "109"), 0)
        self.assertEqual(self.lives("0", "109"), 0)
        self.assertEqual(self.lives("0", "110"), 1)
        self.assertEqual(self.lives("110", "110"), 2)
        self.assertEqual(self.lives("0", "-"), 1)
        self.assertEqual(self.lives("0", "100", "1"), 0)
        self.assertEqual(self.lives("0", "101", "1"), 1)
        self.assertEqual(self.lives("101", "-", "1"), 2)

    def test_open(self):
        # The age is above 9 and below 11.
        for told, answer in (("9", 2), ("10", 1), ("11", 0), ("8", 2), ("12", 0)):
            lines = ["node a 1 1", "at a 0", "at a 10", "parcel p 0 " + told]
            self.assertEqual(ask_one(lines, life(ALL, 0, 1)), [answer], told)

    def test_fraction(self):
        # The age is above 9/2 and below 22.
        for told, answer in (("4", 2), ("5", 1), ("21", 1), ("22", 0)):
            lines = ["node a 1/2 2", "at a 0", "at a 10", "parcel p 0 " + told]
            self.assertEqual(ask_one(lines, life(ALL, 0, 1)), [answer], told)

    def test_at_its_own_event_and_before(self):
        lines = ["node a 1 1", "at a 0", "at a 10", "parcel p 1 1"]
        self.assertEqual(ask_of(lines, life(ALL, 0, 1), life(ALL, 0, 0)), [[0], [0]])

    def test_no_limits(self):
        lines = ["node a 1 1", "node b 1 1", "at a 0", "at b 0", "parcel p 0 1"]
        self.assertEqual(ask_one(lines, life(ALL, 0, 1)), [1])
        lines = ["node a 1 1", "at a 9", "cut a", "at a 0", "parcel p 0 1", "parcel q 1 1"]
        self.assertEqual(ask_of(lines, life(ALL, 0, 1), life(ALL, 1, 0)), [[1], [0]])

    def test_several_parcels(self):
        lines = ["node a 1 1", "at a 0", "at a 10"] + ["parcel p" + "abcdefghij"[k] + " 0 " + str(k + 5) for k in range(10)]
        found = ask_of(lines, *[life(ALL, k, 1) for k in range(10)])
        self.assertEqual(found, [[2]] * 5 + [[1]] + [[0]] * 4)

    def test_as_known(self):
        # At 1 it's known by the word alone; event 2 tells by its moment that it was over.
        lines = ["node a 1 1", "node b 1 1", "at a 0", "at b 0", "at b 0", "word 0 1 2 9", "moment 0 50 50", "moment 2 59 59",
                 "parcel p 0 9"]
        self.assertEqual(ask_of(lines, life(1, 0, 1), life(ALL, 0, 1), life(2, 0, 2), life(2, 0, 1), life(0, 0, 0)),
                         [[1], [1], [2], [1], [0]])
        lines[-1] = "parcel p 0 8"
        self.assertEqual(ask_of(lines, life(1, 0, 1), life(ALL, 0, 1), life(2, 0, 1)), [[1], [2], [2]])


if __name__ == "__main__":
    unittest.main()
