"""answers: how calls stand in the list, and what is kept and changed."""

import unittest

from driftclocks.lives import answers
from tests.asking import (ALL, CLEAR, LIARS, NEEDLESS, TEXT, TOLD, age, as_bytes, ask, bounds, chain, clash, clock, could,
                          learned, life, living, look, order, over, past, pinned, read, shows, tell, world)

PAGE = "node a 1 2\nnode b 1 1\nat a 3\nat b 4\nat a 9\nword 0 1 1 2\nmoment 0 7 -\nparcel p 0 3"

# Every call that asks, from bounds on.
ASKING = [bounds(ALL, 0, 2), chain(ALL, 0, 1), shows(ALL, [0, 1, 0]), order(ALL, 0, 1), clash(ALL), LIARS, life(ALL, 0, 1),
          age(0, 0, 10), over(0, 0), living(0, 0), world(ALL), pinned(ALL, 0, 1, "3/2"), pinned(ALL, 0, 1, ""), clock(ALL, 0),
          past(1), NEEDLESS, could(0, 0, 5), learned(0, 0), TOLD]


def flat(calls):
    return [number for call in calls for number in call]


def every_call():
    return [read(PAGE), tell("cut b"), look(PAGE), TEXT] + ASKING + [bounds(20, 0, 0), age(0, 0, 8), CLEAR, TEXT]


class Answers(unittest.TestCase):
    def test_counts_and_numbers(self):
        self.assertEqual(answers([0]), [1, 0])
        self.assertEqual(answers([4]), [1, 0])
        self.assertEqual(answers([10]), [1, 0])
        self.assertEqual(answers([1, 0]), [1, -1000])
        self.assertEqual(answers([2, 0]), [1, 0])
        self.assertEqual(answers([3, 0]), [2, 0, 0])
        self.assertEqual(answers([0, 4, 9, -1, 0]), [1, 0, 1, 0, 1, 0, 1, 0])
        self.assertEqual(answers([5, -1, 0, 0]), [1, -5])
        self.assertEqual(answers([7, -1, 1, -1]), [4, 0, 1, 1, 48])

    def test_a_fraction_has_its_count(self):
        calls = read("node a 1/2 2\nat a 3\nat a 7") + [5, -1, 0, 1]
        self.assertEqual(answers(calls), [1, 3, 10, 0, 2, 3, 51, 47, 50, 2, 2, 49, 48])

    def test_several_calls(self):
        one_by_one = [ask(read(PAGE), call)[1] for call in ASKING]
        self.assertEqual(ask(read(PAGE), *ASKING)[1:], one_by_one)

    def test_rows_hold_what_looks_like_calls(self):
        self.assertEqual(ask(tell([0, 0, 4]), shows(ALL, [5, -1, 0, 0]), TEXT), [[-1000], [-4], [0]])

    def test_what_is_told_goes_on(self):
        found = ask(tell("node a 1 1"), tell("at a 0"), tell("at a 10"), bounds(ALL, 0, 1), tell("cut a"), tell("at a 10"),
                    order(ALL, 1, 2), tell("word 0 1 0 0"), CLEAR, order(ALL, 1, 2))
        self.assertEqual([answer[0] for answer in found], [1, 2, 3, 0, 4, 5, 3, -7, 0, -5])

    def test_a_hundred_calls(self):
        calls = [tell("node a 1 1")] + [tell("cut a")] * 98 + [TEXT]
        found = ask(*calls)
        self.assertEqual([answer[0] for answer in found[:-1]], list(range(1, 100)))
        self.assertEqual(found[-1], [0] + as_bytes("\n".join(["node a 1 1"] + ["cut a"] * 98)))

    def test_long_rows(self):
        found = ask(look([48] * 2000), shows(ALL, [-1] * 2000), read("node a 1 1\n" + "\n".join(["cut a"] * 100)))
        self.assertEqual(found, [[1, 0], [-4], [101]])

    def test_list_stays_as_it_was(self):
        calls = flat(every_call())
        before = list(calls)
        answers(calls)
        self.assertEqual(calls, before)

    def test_list_may_not_change_for_a_while_either(self):
        class Watched(list):
            def refuse(self, *rest):
                raise AssertionError("the list was changed")

            __setitem__ = __delitem__ = __iadd__ = __imul__ = refuse
            append = extend = insert = pop = remove = clear = sort = reverse = refuse

        calls = flat(every_call())
        self.assertEqual(answers(Watched(calls)), answers(calls))

    def test_second_time_is_as_the_first(self):
        calls = flat(every_call())
        first = answers(calls)
        self.assertEqual(answers(calls), first)
        self.assertEqual(answers(TEXT), [1, 0])
        self.assertEqual(answers(bounds(ALL, 0, 0)), [1, -5])
        first.append(7)
        self.assertEqual(answers(calls), first[:-1])

    def test_answers_are_whole_numbers(self):
        found = answers(flat(every_call()))
        self.assertIs(type(found), list)
        for number in found:
            self.assertIs(type(number), int)

    def test_each_call_has_its_own_length_and_changes_nothing(self):
        for call in ASKING:
            found = ask(read(PAGE), call, order(ALL, 0, 1), call, TEXT)
            self.assertEqual(found[2], [1], call)
            self.assertEqual(found[4], [0] + as_bytes(PAGE), call)

    def test_each_call_by_its_numbers(self):
        head = read("node a 1/2 2\nat a 0\nat a 10\nparcel p 0 5")
        cases = [([12, 0, 0, 11], [2, 2, 1, 53, 2, 2, 50, 52]), ([13, 0, 0], [1, 11]), ([14, 0, 0], [0]),
                 ([15, -1], [0, 0, 1, 48, 1, 4, 53, 51, 47, 52]), ([16, -1, 0, 1, 1, 53], [1, 0, 1, 48, 1, 1, 53]),
                 ([16, -1, 0, 1, 1, 52], [0]), ([17, -1, 1], [0, 2, 49, 48]), ([18, 1], [0, 0, 1]), ([19], [0]),
                 ([20, 0, 0, 0], [1]), ([20, 0, 0, 1], [0]), ([21, 0, 0], [0]), ([22], [1, 2, 0, 0, 1, 4])]
        for call, answer in cases:
            self.assertEqual(answers(head + call), [1, 4, len(answer)] + answer, call)

    def test_any_call_first(self):
        found = ask(*ASKING)
        self.assertEqual(found, [[-5], [-5], [-4], [-5], [0], [0], [-5], [-5], [-5], [-5], [0], [-5], [-5], [-5], [-5], [0],
                                 [-5], [-5], [0] * 6])

    def test_there_is_a_call_of_each_number(self):
        wholes = [0, 0, 0, 0, 0, 3, 3, 1, 3, 1, 0, 3, 3, 2, 2, 1, 3, 2, 1, 0, 3, 2, 0]
        with_list = [1, 2, 3, 7, 16]
        for number in range(23):
            for value in (-1, 0, 1, 5, 10**12, 10**12 + 1):
                call = [number] + [value] * wholes[number] + ([0] if number in with_list else [])
                found = ask(read(PAGE), call, TOLD)
                self.assertGreater(found[1][0], -100 if number != 1 else -1001, call)
                self.assertEqual(len(found[2]), 6)


if __name__ == "__main__":
    unittest.main()
