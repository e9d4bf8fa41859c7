"""Which facts are refused, and that what's told stays as told."""

import unittest

from tests.asking import ALL, CLEAR, TEXT, as_bytes, ask, bounds, look, read, tell

TWO = ["node a 1 1", "node b 1 1", "at a 5", "at b 5"]


def refusal_of(lines, fact):
    """How the fact is refused behind these lines (0: not at all), told, read and looked at."""
    page = "\n".join(lines + [fact])
    before, answer, after, looked, got = ask(read("\n".join(lines)), tell(fact), TEXT, look(page), read(page))
    told = as_bytes("\n".join(lines))
    assert before == [len(lines)], before
    if answer[0] > 0:
        whole = [[len(lines) + 1], [0] + as_bytes(page), [0, len(lines) + 1], [len(lines) + 1]]
        assert [answer, after, looked, got] == whole, (answer, after, looked, got)
        return 0
    assert after == [0] + told, after
    assert looked == [2, len(lines), 0 - answer[0]], looked
    assert got == [-100000 - len(lines)], got
    return answer[0]


class Refusals(unittest.TestCase):
    def check(self, lines, cases):
        for fact, refusal in cases:
            self.assertEqual(refusal_of(lines, fact), refusal, fact)

    def test_node(self):
        self.check([], [("node a 1 1", 0), ("node a 2 1", -7), ("node a 1/2 1/3", -7), ("node a 1/3 1/2", 0),
                        ("node a 1000000/999999 1", -7), ("node a 999999/1000000 1000000/999999", 0)])
        self.check(TWO, [("node a 1 1", -4), ("node a 2 1", -4), ("node c 2 1", -7), ("node c 1 2", 0),
                         ("node ab 1 1", 0)])
        five = ["node " + name + " 1 1" for name in "abcde"]
        self.check(five, [("node f 1 1", 0)])
        self.check(five + ["node f 1 1"], [("node a 2 1", -4), ("node g 2 1", -7), ("node g 1 1", -9)])

    def test_at(self):
        self.check([], [("at a 0", -5)])
        self.check(TWO, [("at c 0", -5), ("at a 4", -7), ("at a 5", 0), ("at a 6", 0), ("at b 4", -7)])
        self.check(TWO + ["at a 9"], [("at a 8", -7), ("at a 9", 0), ("at b 5", 0)])
        self.check(TWO + ["cut a"], [("at a 0", 0), ("at b 4", -7)])
        self.check(TWO + ["cut b"], [("at a 4", -7), ("at b 4", 0)])
        self.check(TWO + ["cut a", "at a 3"], [("at a 2", -7), ("at a 3", 0), ("at a 4", 0)])
        nineteen = TWO + ["at a 7"] * 17
        self.check(nineteen, [("at a 7", 0)])
        self.check(nineteen + ["at b 9"], [("at c 9", -5), ("at a 6", -7), ("at b 8", -7), ("at b 9", -9),
                                           ("at a 7", -9)])

    def test_cut(self):
        self.check([], [("cut a", -5)])
        self.check(TWO, [("cut c", -5), ("cut a", 0), ("cut b", 0)])
        self.check(TWO + ["cut a"] * 99, [("cut a", 0)])
        self.check(TWO + ["cut a"] * 100, [("cut c", -5), ("cut a", -9), ("cut b", 0)])

    def test_word(self):
        self.check([], [("word 0 1 0 -", -5)])
        self.check(TWO, [("word 0 2 0 -", -5), ("word 2 0 0 -", -5), ("word 19 19 0 -", -5), ("word 2 0 5 4", -5),
                         ("word 0 0 0 -", -7), ("word 1 1 0 -", -7), ("word 0 1 5 4", -7), ("word 0 1 5 5", 0),
                         ("word 0 1 5 -", 0), ("word 1 0 0 0", 0), ("word 0 1 1 0", -7)])
        self.check(TWO + ["cut a", "at a 0"], [("word 0 2 0 -", -7), ("word 2 0 0 1", -7), ("word 2 1 0 1", 0)])
        self.check(TWO + ["word 0 1 0 -"] * 19, [("word 0 1 0 -", 0)])
        self.check(TWO + ["word 0 1 0 -"] * 20, [("word 0 2 0 -", -5), ("word 0 0 0 -", -7), ("word 0 1 5 4", -7),
                                                 ("word 0 1 0 -", -9)])

    def test_moment(self):
        self.check([], [("moment 0 0 -", -5)])
        self.check(TWO, [("moment 2 0 -", -5), ("moment 2 5 4", -5), ("moment 1 5 4", -7), ("moment 1 5 5", 0),
                         ("moment 1 5 -", 0), ("moment 0 1 0", -7)])
        self.check(TWO + ["moment 0 0 -"] * 9, [("moment 0 0 -", 0)])
        self.check(TWO + ["moment 0 0 -"] * 10, [("moment 2 5 4", -5), ("moment 0 5 4", -7), ("moment 0 0 -", -9),
                                                 ("moment 1 0 5", -9)])

    def test_parcel(self):
        self.check([], [("parcel a 0 1", -5)])
        self.check(TWO, [("parcel a 2 1", -5), ("parcel a 0 1", 0), ("parcel a 1 1", 0)])
        nine = TWO + ["parcel " + name + " 0 1" for name in "abcdefghi"]
        self.check(nine, [("parcel a 2 1", -4), ("parcel a 0 1", -4), ("parcel z 2 1", -5), ("parcel j 1 1", 0)])
        self.check(nine + ["parcel j 1 1"], [("parcel a 2 1", -4), ("parcel z 2 1", -5), ("parcel z 0 1", -9)])

    def test_first_refused_line_counts(self):
        page = "node a 1 1\nat a 5\nat a 4\nnode a 1 1\ncut z"
        self.assertEqual(ask(look(page), read(page)), [[2, 2, 7], [-100002]])
        self.assertEqual(ask(look("cut a"), read("cut a")), [[2, 0, 5], [-100000]])
        self.assertEqual(ask(look("node a 1 1\nnode a 1 1"), look("\n".join(TWO + ["cut a"] * 101))),
                         [[2, 1, 4], [2, 104, 9]])


class Telling(unittest.TestCase):
    def test_tell_counts_all_facts(self):
        lines = TWO + ["cut a", "word 0 1 0 -", "moment 0 0 1", "parcel p 0 1"]
        found = ask(*[tell(line) for line in lines], TEXT)
        self.assertEqual(found[:-1], [[count + 1] for count in range(len(lines))])
        self.assertEqual(found[-1], [0] + as_bytes("\n".join(lines)))

    def test_text_of_nothing(self):
        self.assertEqual(ask(TEXT), [[0]])

    def test_read_is_all_that_is_told(self):
        found = ask(read("\n".join(TWO)), read("node c 1 1"), TEXT, tell("node a 1 1"), tell("at b 0"), read(""), TEXT)
        self.assertEqual(found, [[4], [1], [0] + as_bytes("node c 1 1"), [2], [-5], [0], [0]])

    def test_look_and_failed_read_change_nothing(self):
        for call in (look("node c 1 1"), look(""), look("node a 1 1\nnode a 1 1"), read("node c 1 1\nnode c 1 1"),
                     read("cut a"), look("cut a"), tell("cut c"), tell("at a 4"), tell("node a 1 1")):
            found = ask(read("\n".join(TWO)), call, TEXT, tell("at a 5"), bounds(ALL, 0, 1))
            self.assertEqual(found[2:4], [[0] + as_bytes("\n".join(TWO)), [5]])
            self.assertEqual(found[4][0], 0)

    def test_look_begins_with_nothing(self):
        self.assertEqual(ask(read("\n".join(TWO)), look("node a 1 1"), look("at a 9")), [[4], [0, 1], [2, 0, 5]])

    def test_refused_read_leaves_no_part(self):
        found = ask(read("node a 1 1\nat a 0\nat b 0"), TEXT, tell("node a 1 1"))
        self.assertEqual(found, [[-100002], [0], [1]])

    def test_clear(self):
        found = ask(read("\n".join(TWO)), CLEAR, TEXT, tell("at a 0"), tell("node a 1 1"), tell("at a 0"))
        self.assertEqual(found[1:], [[0], [0], [-5], [1], [2]])

    def test_text_tells_the_same_again(self):
        lines = ["node a 1/2 3", "node abcdefghijkl 1000000/999999 1000000", "at a 0", "cut a", "at a 1000000000000",
                 "cut a", "cut a", "at abcdefghijkl 7", "word 0 2 0 -", "word 2 1 3 1000000000000", "moment 0 0 -",
                 "moment 1 5 5", "parcel a 0 1", "parcel node 2 1000000000000"]
        first = ask(*[tell(line) for line in lines], TEXT)[-1]
        self.assertEqual(first, [0] + as_bytes("\n".join(lines)))
        second = ask(read(first[1:]), TEXT)
        self.assertEqual(second, [[len(lines)], first])

    def test_long_text_of_many_facts(self):
        lines = ["node abcdefghijk" + name + " 1 1" for name in "abcdef"]
        cuts = ["cut abcdefghijk" + name for name in "abcdef"]
        pages = [look("\n".join(lines + cuts)), read("\n".join(lines))] + [tell(cut) for cut in cuts for time in range(15)]
        found = ask(*pages, TEXT)
        whole = lines + [cut for cut in cuts for time in range(15)]
        self.assertEqual(found[0], [0, 12])
        self.assertEqual(found[-1], [0] + as_bytes("\n".join(whole)))


if __name__ == "__main__":
    unittest.main()
