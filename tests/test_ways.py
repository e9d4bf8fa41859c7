"""The chain told, the ring told, and whose clocks must lie."""

import unittest

from tests.asking import ALL, LIARS, TEXT, ask, ask_of, ask_one, bounds, chain, clash, limits_of, read, shows

FOUR = ["node a 1 1", "node b 1 1", "node c 1 1", "node d 1 1", "at a 0", "at b 0", "at c 0", "at d 0"]


class Chain(unittest.TestCase):
    def check(self, lines, cases):
        for call, points in cases:
            self.assertEqual(ask_one(lines, call), [len(points)] + points, call)

    def test_no_limit_is_0_alone(self):
        self.check(FOUR, [(chain(ALL, 0, 1), []), (chain(ALL, 3, 0), [])])
        self.assertEqual(ask_one(FOUR, chain(ALL, 0, 1)), [0])

    def test_itself(self):
        self.check(FOUR, [(chain(ALL, 2, 2), [2]), (chain(2, 2, 2), [2])])
        self.check(["node a 1 1", "at a 0", "at a 0", "moment 0 0 0"], [(chain(ALL, 1, 1), [1])])

    def test_fewest_steps(self):
        lines = FOUR + ["word 0 1 0 5", "word 1 2 0 5", "word 0 2 0 10"]
        self.check(lines, [(chain(ALL, 0, 2), [0, 2]), (chain(ALL, 2, 0), [2, 0])])
        lines[-1] = "word 0 2 0 11"
        self.check(lines, [(chain(ALL, 0, 2), [0, 1, 2])])

    def test_least_point(self):
        lines = FOUR + ["word 0 1 0 3", "word 1 3 0 4", "word 0 2 0 4", "word 2 3 0 3"]
        self.check(lines, [(chain(ALL, 0, 3), [0, 1, 3]), (chain(ALL, 3, 0), [3, 1, 0])])
        lines = FOUR + ["word 0 1 0 4", "word 1 3 0 4", "word 0 2 0 4", "word 2 3 0 3"]
        self.check(lines, [(chain(ALL, 0, 3), [0, 2, 3])])

    def test_origin_is_the_least_point(self):
        lines = FOUR + ["word 0 1 0 3", "word 1 3 0 4", "moment 0 1 -", "moment 3 0 8"]
        self.check(lines, [(chain(ALL, 0, 3), [0, -1, 3])])
        lines[-1] = "moment 3 0 9"
        self.check(lines, [(chain(ALL, 0, 3), [0, 1, 3])])

    def test_open_chain_is_tighter(self):
        # Both come to 3: by the moments reached, by the clock open and with more steps.
        lines = ["node a 1 1", "node b 1 1", "at a 0", "at a 1", "at b 0", "word 1 2 0 1", "word 0 2 0 3"]
        self.check(lines, [(chain(ALL, 0, 2), [0, 1, 2])])
        self.assertEqual(limits_of(ask_one(lines, bounds(ALL, 0, 2)))[1], (3, True))
        lines[-1] = "word 0 2 0 2"
        self.check(lines, [(chain(ALL, 0, 2), [0, 2])])

    def test_the_way_onward_has_its_own_fewest_steps(self):
        # From 1 on to 3 there are chains of one and of two steps, alike.
        lines = FOUR + ["word 0 1 0 1", "word 1 3 0 6", "word 1 2 0 3", "word 2 3 0 3"]
        self.check(lines, [(chain(ALL, 0, 3), [0, 1, 3])])

    def test_one_clock(self):
        # A step leads straight to each later or earlier event of the run.
        lines = ["node a 1 2", "at a 0", "at a 5", "at a 9"]
        self.check(lines, [(chain(ALL, 0, 2), [0, 2]), (chain(ALL, 2, 0), [2, 0])])

    def test_order_over_cuts(self):
        lines = ["node a 1 1", "at a 0", "at a 5", "cut a", "at a 0", "cut a", "at a 5", "at a 8"]
        self.check(lines, [(chain(ALL, 4, 0), [4, 3, 1, 0]), (chain(ALL, 2, 1), [2, 1]), (chain(ALL, 1, 2), [])])

    def test_as_known(self):
        lines = FOUR + ["word 0 1 0 9", "word 0 2 0 1", "word 1 2 0 -", "word 2 3 0 1"]
        self.check(lines, [(chain(ALL, 0, 1), [0, 2, 1]), (chain(1, 0, 1), [0, 1]), (chain(3, 0, 1), [0, 2, 1]),
                           (chain(0, 0, 0), [0])])

    def test_long_chain(self):
        # Words go to and fro between two nodes without clocks that help: each event in a run of its own.
        lines = ["node a 1 1", "node b 1 1"]
        for event in range(20):
            name = "ab"[event % 2]
            lines += ["at " + name + " 0", "cut " + name]
        lines += ["word " + str(event) + " " + str(event + 1) + " 1 2" for event in range(19)]
        self.check(lines, [(chain(ALL, 0, 19), list(range(20))), (chain(ALL, 19, 0), list(range(19, -1, -1)))])
        self.assertEqual(limits_of(ask_one(lines, bounds(ALL, 0, 19))), [(19, False), (38, False)])


class Clash(unittest.TestCase):
    def check(self, lines, g, points):
        self.assertEqual(ask_one(lines, clash(g)), [len(points)] + points)
        if points:
            limit = limits_of(ask_one(lines, shows(g, points + points[:1])))[0]
            self.assertTrue(limit[0] < 0 or limit == (0, True), limit)

    def test_none(self):
        self.assertEqual(ask(clash(ALL)), [[0]])
        self.check(FOUR, ALL, [])
        self.check(FOUR + ["word 0 1 3 3", "word 1 2 3 3", "word 0 2 6 6"], ALL, [])

    def test_ring_of_0_reached_is_none(self):
        self.check(FOUR + ["moment 0 5 5", "moment 0 0 5", "moment 0 5 -"], ALL, [])

    def test_two_points(self):
        self.check(FOUR + ["moment 0 9 -", "moment 0 5 5"], ALL, [-1, 0])
        self.check(FOUR + ["word 2 3 9 -", "word 2 3 0 8"], ALL, [2, 3])
        self.check(FOUR + ["word 2 3 0 -", "word 3 2 1 -"], ALL, [2, 3])

    def test_open_0(self):
        lines = ["node a 1 1", "at a 0", "at a 1", "moment 0 0 0"]
        self.check(lines + ["moment 1 1 1"], ALL, [])
        self.check(lines + ["moment 1 2 2"], ALL, [-1, 0, 1])
        self.check(lines + ["moment 1 0 0"], ALL, [-1, 1, 0])

    def test_fewest_steps_come_first(self):
        # One ring of three points begins at -1, one of two points at 2.
        lines = FOUR + ["moment 0 5 5", "moment 1 5 5", "word 0 1 1 -", "word 2 3 9 -", "word 2 3 0 8"]
        self.check(lines, ALL, [2, 3])
        self.check(lines[:-1], ALL, [-1, 1, 0])

    def test_least_first_point(self):
        lines = FOUR + ["word 2 3 9 -", "word 2 3 0 8", "word 0 1 9 -", "word 0 1 0 8"]
        self.check(lines, ALL, [0, 1])
        self.check(lines + ["moment 3 5 -", "moment 3 0 4"], ALL, [-1, 3])

    def test_least_second_point(self):
        lines = FOUR + ["word 0 3 9 -", "word 0 3 0 8", "word 0 1 9 -", "word 0 1 0 8", "word 0 2 9 -", "word 0 2 0 8"]
        self.check(lines, ALL, [0, 1])

    def test_which_way_round(self):
        # Either way round comes to less than 0.
        lines = FOUR + ["word 0 1 5 5", "word 1 2 5 5", "word 2 0 5 5"]
        self.check(lines, ALL, [0, 2, 1])
        lines = FOUR + ["word 0 1 0 1", "word 1 2 0 1", "word 0 2 5 6"]
        self.check(lines, ALL, [0, 1, 2])

    def test_a_tighter_way_with_more_steps_is_not_taken(self):
        # From 2 back to 0 the way over 3 comes to less, but the ring over 1 and 2 alone has fewer steps.
        lines = FOUR + ["word 0 1 0 1", "word 1 2 0 1", "word 0 2 5 -", "word 2 3 0 0", "word 0 3 9 -"]
        self.check(lines, ALL, [0, 1, 2])

    def test_as_known(self):
        lines = FOUR + ["word 0 1 9 -", "word 0 1 0 8", "word 1 2 0 -"]
        for g, points in ((0, []), (1, [0, 1]), (2, [0, 1]), (3, []), (ALL, [0, 1])):
            self.check(lines, g, points)

    def test_clock(self):
        lines = ["node a 1/2 2", "at a 0", "at a 10", "moment 0 0 0", "moment 1 22 22"]
        self.check(lines, ALL, [-1, 0, 1])
        lines[-1] = "moment 1 21 21"
        self.check(lines, ALL, [])
        lines[-1] = "moment 1 5 5"
        self.check(lines, ALL, [])
        lines[-1] = "moment 1 4 4"
        self.check(lines, ALL, [-1, 1, 0])

    def test_long_ring(self):
        lines = ["node a 1 1", "node b 1 1"]
        for event in range(20):
            name = "ab"[event % 2]
            lines += ["at " + name + " 0", "cut " + name]
        lines += ["word " + str(event) + " " + str(event + 1) + " 0 1" for event in range(19)]
        # 18 is of a, 19 of b; 0 to 19 takes at most 19 by the words.
        self.check(lines + ["word 0 19 19 -"], ALL, [])
        self.check(lines + ["word 0 19 20 -"], ALL, list(range(20)))

    def test_clash_changes_nothing(self):
        page = "\n".join(FOUR + ["word 0 1 9 -", "word 0 1 0 8"])
        found = ask(read(page), TEXT, clash(ALL), LIARS, TEXT)
        self.assertEqual(found[1], found[4])


class Liars(unittest.TestCase):
    def check(self, lines, nodes):
        self.assertEqual(ask_one(lines, LIARS), [len(nodes)] + nodes)

    def test_none(self):
        self.assertEqual(ask(LIARS), [[0]])
        self.check(FOUR, [])
        self.check(["node a 1 1", "at a 0", "at a 5", "moment 0 0 0", "moment 1 5 5"], [])

    def test_one(self):
        lines = ["node a 1 1", "node b 1 1", "at b 0", "at b 5", "moment 0 0 0", "moment 1 50 50"]
        self.check(lines, [1])

    def test_several(self):
        lines = ["node a 1 1", "node b 1 1", "node c 1 1", "at a 0", "at b 0", "at c 0", "at a 5", "at b 5", "at c 5"]
        lines += ["moment 0 0 0", "moment 1 0 0", "moment 2 0 0"]
        self.check(lines + ["moment 3 50 50", "moment 4 5 5", "moment 5 50 50"], [0, 2])
        self.check(lines + ["moment 3 5 5", "moment 4 50 50", "moment 5 50 50"], [1, 2])
        self.check(lines + ["moment 3 50 50", "moment 4 50 50", "moment 5 50 50"], [0, 1, 2])

    def test_either_of_two(self):
        # b and c tell of the same stretch 5 and 50; only one of them can be right.
        lines = ["node a 1 1", "node b 1 1", "node c 1 1", "at b 0", "at c 0", "at b 5", "at c 50", "word 0 1 0 0",
                 "word 2 3 0 0"]
        self.check(lines, [1])

    def test_fewer_comes_before_lesser(self):
        # c contradicts a and b both; without c nothing contradicts.
        lines = ["node a 1 1", "node b 1 1", "node c 1 1", "at a 0", "at b 0", "at c 0", "at a 5", "at b 5", "at c 50",
                 "word 0 2 0 0", "word 1 2 0 0", "word 3 5 0 0", "word 4 5 0 0"]
        self.check(lines, [2])

    def test_all_six(self):
        lines = ["node " + name + " 1 1" for name in "abcdef"]
        lines += ["at " + name + " 0" for name in "abcdef"] + ["at " + name + " 5" for name in "abcdef"]
        lines += ["moment 0 0 0", "moment 6 50 50"]
        for number in range(1, 6):
            lines += ["word 0 " + str(number) + " 0 0", "word 6 " + str(number + 6) + " 0 0"]
        self.check(lines, [0, 1, 2, 3, 4, 5])

    def test_there_is_none(self):
        self.assertEqual(ask_one(FOUR + ["moment 0 9 -", "moment 0 5 5"], LIARS), [-8])
        self.assertEqual(ask_one(FOUR + ["word 0 1 1 -", "word 1 0 0 -"], LIARS), [-8])

    def test_order_is_no_step_of_a_clock(self):
        lines = ["node a 1 1", "at a 0", "cut a", "at a 0", "moment 0 5 5", "moment 1 3 3"]
        self.assertEqual(ask_one(lines, LIARS), [-8])
        self.assertEqual(ask_one([line for line in lines if line != "cut a"], LIARS), [-8])

    def test_a_run_of_its_own_does_not_lie(self):
        lines = ["node a 1 1", "at a 0", "cut a", "at a 5", "moment 0 0 0", "moment 1 50 50"]
        self.check(lines, [])
        self.check([line for line in lines if line != "cut a"], [0])

    def test_open_0(self):
        lines = ["node a 1 1", "at a 0", "at a 1", "moment 0 0 0", "moment 1 2 2"]
        self.check(lines, [0])
        self.check(lines[:-1] + ["moment 1 1 1"], [])


if __name__ == "__main__":
    unittest.main()
