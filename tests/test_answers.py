"""answers: how calls stand in the list, and what is kept and changed."""

import unittest

from driftclocks.lives import answers
from tests.asking import ALL, CLEAR, LIARS, TEXT, as_bytes, ask, bounds, chain, clash, life, look, order, read, shows, tell

PAGE = "node a 1 2\nnode b 1 1\nat a 3\nat b 4\nat a 9\nword 0 1 1 2\nmoment 0 7 -\nparcel p 0 3"

# Every call of the next stage, with as many numbers as the interface tells.
LATER = [[12, 0, 0, 5], [13, 0, 0], [14, 0, 0], [15, ALL], [16, ALL, 0, 1, 3, 49, 47, 50], [16, ALL, 0, 1, 0], [17, ALL, 0],
         [18, 0], [19], [20, 0, 0, 5], [21, 0, 0], [22]]


def flat(calls):
    return [number for call in calls for number in call]


def every_call():
    return [read(PAGE), tell("cut a"), look(PAGE), TEXT, bounds(ALL, 0, 2), chain(ALL, 0, 1), shows(ALL, [0, 1, 0]),
            order(ALL, 0, 1), clash(ALL), LIARS, life(ALL, 0, 1), bounds(20, 0, 0), bounds(9, 0, 0), CLEAR, TEXT]


class Answers(unittest.TestCase):
    def test_counts_and_numbers(self):
        self.assertEqual(answers([0]), [1, 0])
        self.assertEqual(answers([4]), [1, 0])
        self.assertEqual(answers([10]), [1, 0])
        self.assertEqual(answers([1, 0]), [1, -1000])
        self.assertEqual(answers([2, 0]), [1, 0])
        self.assertEqual(answers([3, 0]), [2, 0, 0])
        self.assertEqual(answers([0, 4, 9, -1, 0]), [1, 0, 1, 0, 1, 0, 1, 0])
        self.assertEqual(answers([5, -1, 0, 0]), [1, -5])
        self.assertEqual(answers([7, -1, 1, -1]), [4, 0, 1, 1, 48])

    def test_a_fraction_has_its_count(self):
        calls = read("node a 1/2 2\nat a 3\nat a 7") + [5, -1, 0, 1]
        self.assertEqual(answers(calls), [1, 3, 10, 0, 2, 3, 51, 47, 50, 2, 2, 49, 48])

    def test_several_calls(self):
        one_by_one = [ask(read(PAGE), call)[1] for call in every_call()[4:11]]
        self.assertEqual(ask(read(PAGE), *every_call()[4:11])[1:], one_by_one)

    def test_rows_hold_what_looks_like_calls(self):
        self.assertEqual(ask(tell([0, 0, 4]), shows(ALL, [5, -1, 0, 0]), TEXT), [[-1000], [-4], [0]])

    def test_what_is_told_goes_on(self):
        found = ask(tell("node a 1 1"), tell("at a 0"), tell("at a 10"), bounds(ALL, 0, 1), tell("cut a"), tell("at a 10"),
                    order(ALL, 1, 2), tell("word 0 1 0 0"), CLEAR, order(ALL, 1, 2))
        self.assertEqual([answer[0] for answer in found], [1, 2, 3, 0, 4, 5, 3, -7, 0, -5])

    def test_a_hundred_calls(self):
        calls = [tell("node a 1 1")] + [tell("cut a")] * 98 + [TEXT]
        found = ask(*calls)
        self.assertEqual([answer[0] for answer in found[:-1]], list(range(1, 100)))
        self.assertEqual(found[-1], [0] + as_bytes("\n".join(["node a 1 1"] + ["cut a"] * 98)))

    def test_long_rows(self):
        found = ask(look([48] * 2000), shows(ALL, [-1] * 2000), read("node a 1 1\n" + "\n".join(["cut a"] * 100)))
        self.assertEqual(found, [[1, 0], [-4], [101]])

    def test_list_stays_as_it_was(self):
        calls = flat(every_call())
        before = list(calls)
        answers(calls)
        self.assertEqual(calls, before)

    def test_list_may_not_change_for_a_while_either(self):
        class Watched(list):
            def refuse(self, *rest):
                raise AssertionError("the list was changed")

            __setitem__ = __delitem__ = __iadd__ = __imul__ = refuse
            append = extend = insert = pop = remove = clear = sort = reverse = refuse

        calls = flat(every_call())
        self.assertEqual(answers(Watched(calls)), answers(calls))

    def test_second_time_is_as_the_first(self):
        calls = flat(every_call())
        first = answers(calls)
        self.assertEqual(answers(calls), first)
        self.assertEqual(answers(TEXT), [1, 0])
        self.assertEqual(answers(bounds(ALL, 0, 0)), [1, -5])
        first.append(7)
        self.assertEqual(answers(calls), first[:-1])

    def test_answers_are_whole_numbers(self):
        found = answers(flat(every_call()))
        self.assertIs(type(found), list)
        for number in found:
            self.assertIs(type(number), int)

    def test_calls_of_the_next_stage_are_read_over(self):
        for call in LATER:
            found = ask(read(PAGE), call, order(ALL, 0, 1), call, TEXT)
            self.assertEqual(found[2], [1], call)
            self.assertEqual(found[4], [0] + as_bytes(PAGE), call)


if __name__ == "__main__":
    unittest.main()
