"""The promises, as far as the calls reach them."""

import random
import unittest
from fractions import Fraction
from math import ceil, floor

from tests.asking import ALL, LIARS, TEXT, as_text, ask, ask_of, bounds, chain, clash, life, limits_of, order, read, shows
from tests.plain_model import Model, tighter
from tests.test_model import random_lines


def random_world(dice, events):
    """True moments of events, and lines that were told of them by clocks that kept their rates."""
    names = "abc"[:dice.randint(1, 3)]
    rates = {}
    lines = []
    for name in names:
        lowest = Fraction(dice.randint(1, 6), dice.randint(1, 6))
        rates[name] = (lowest, lowest + Fraction(dice.randint(0, 4), dice.randint(1, 6)))
        lines.append(f"node {name} {rates[name][0]} {rates[name][1]}")
    moments, of = [], []
    value = {name: Fraction(dice.randint(0, 30), 7) for name in names}
    last = {name: Fraction(0) for name in names}
    now = Fraction(0)
    for event in range(events):
        now += Fraction(dice.choice([0, 1, 3, 10, 40]), dice.choice([1, 2, 3]))
        name = dice.choice(names)
        lowest, highest = rates[name]
        value[name] += (now - last[name]) * (lowest + (highest - lowest) * Fraction(dice.randint(0, 4), 4))
        last[name] = now
        if dice.random() < 0.15:
            lines.append(f"cut {name}")
            value[name] = Fraction(dice.randint(0, 30), 7)
        lines.append(f"at {name} {floor(value[name])}")
        moments.append(now)
        of.append(name)
    for word in range(dice.randint(0, 4)):
        e, f = sorted((dice.randrange(events), dice.randrange(events)))
        lag = moments[f] - moments[e]
        if of[e] != of[f]:
            greatest = dice.choice(["-", ceil(lag), ceil(lag) + 2])
            lines.append(f"word {e} {f} {max(0, floor(lag) - dice.choice([0, 0, 2]))} {greatest}")
    for moment in range(dice.randint(0, 2)):
        e = dice.randrange(events)
        lines.append(f"moment {e} {floor(moments[e])} {dice.choice(['-', ceil(moments[e])])}")
    lines.append(f"parcel p {dice.randrange(events)} {dice.randint(1, 12)}")
    return moments, lines


def is_within(number, least, greatest):
    return ((least is None or number > least[0] or (number == least[0] and not least[1]))
            and (greatest is None or number < greatest[0] or (number == greatest[0] and not greatest[1])))


def differences(least, greatest):
    """Differences at the bounds, close to them and between them."""
    tries = [Fraction(0)]
    for limit in (least, greatest):
        if limit is not None:
            tries += [limit[0], limit[0] + Fraction(1, 10**9), limit[0] - Fraction(1, 10**9), limit[0] + 1, limit[0] - 1]
    if least is not None and greatest is not None:
        tries.append((least[0] + greatest[0]) / 2)
    return tries


def can_be(model, steps, *more):
    """Whether there's a world that keeps these steps besides."""
    whole = dict(steps)
    for u, v, number, is_open in more:
        whole[u, v] = tighter(whole.get((u, v)), (Fraction(number), is_open))
    return not model.contradicts(whole)


class Promises(unittest.TestCase):
    def test_1_what_was_lies_within(self):
        dice = random.Random(30)
        for time in range(150):
            events = dice.randint(1, 12)
            moments, lines = random_world(dice, events)
            g = dice.choice([ALL] + list(range(events)))
            known = sorted(Model(lines).known(g))
            e, f = dice.choice(known), dice.choice(known)
            with self.subTest(lines=lines, g=g, e=e, f=f):
                found = ask_of(lines, bounds(g, e, f), clash(g), LIARS, order(g, e, f), chain(g, e, f))
                least, greatest = limits_of(found[0])
                self.assertTrue(is_within(moments[f] - moments[e], least, greatest))
                self.assertEqual(found[1:3], [[0], [0]])
                real = 1 if moments[f] > moments[e] else 2 if moments[f] == moments[e] else 4
                self.assertEqual(found[3][0] & real, real)
                if greatest is not None:
                    self.assertEqual(limits_of(ask_of(lines, shows(g, found[4][1:]))[0]), [greatest])

    def test_1_every_difference_within_is_that_of_a_world(self):
        dice = random.Random(31)
        for time in range(120):
            events = dice.randint(2, 4)
            moments, lines = random_world(dice, events)
            model = Model(lines)
            g = dice.choice([ALL] + list(range(events)))
            known = sorted(model.known(g))
            e, f = dice.choice(known), dice.choice(known)
            steps = model.steps(g)
            with self.subTest(lines=lines, g=g, e=e, f=f):
                least, greatest = limits_of(ask_of(lines, bounds(g, e, f))[0])
                if e == f:
                    self.assertEqual([least, greatest], [(0, False), (0, False)])
                    continue
                for number in differences(least, greatest):
                    pinned = can_be(model, steps, (e, f, number, False), (f, e, -number, False))
                    self.assertEqual(pinned, is_within(number, least, greatest), number)

    def test_3_contradicts_just_if_a_ring_shows_it(self):
        dice = random.Random(32)
        clashes = 0
        for time in range(200):
            events = dice.randint(2, 5)
            lines = random_lines(dice, events)
            g = dice.choice([ALL] + list(range(events)))
            with self.subTest(lines=lines, g=g):
                model = Model(lines)
                contradicts = model.contradicts(model.steps(g))
                e = 0 if g == ALL else g
                ring, bound = ask_of(lines, clash(g), bounds(g, e, e))
                self.assertEqual(ring[0] > 0, contradicts)
                self.assertEqual(bound == [-8], contradicts)
                if contradicts:
                    clashes += 1
                    limit = limits_of(ask_of(lines, shows(g, ring[1:] + ring[1:2]))[0])[0]
                    self.assertTrue(limit[0] < 0 or limit == (0, True))
        self.assertTrue(20 < clashes < 180, clashes)

    def test_4_a_parcel_told_to_be_over_is_over_in_every_world(self):
        dice = random.Random(33)
        kinds = {}
        for time in range(300):
            events = dice.randint(2, 4)
            moments, lines = random_world(dice, events)
            model = Model(lines)
            event, told = model.parcels[0]
            f = dice.randrange(events)
            g = dice.choice([ALL, f])
            if event not in model.known(g):
                continue
            steps = model.steps(g)
            with self.subTest(lines=lines, g=g, f=f):
                found = ask_of(lines, life(g, 0, f))[0][0]
                kinds[found] = kinds.get(found, 0) + 1
                is_over = moments[f] - moments[event] >= told
                self.assertIn(found, (1, 2) if is_over else (0, 1))
                # It's told as soon as no world has it otherwise.
                self.assertEqual(found == 2, event != f and not can_be(model, steps, (event, f, told, True)))
                self.assertEqual(found == 0, event == f or not can_be(model, steps, (f, event, -told, False)))
        self.assertEqual(sorted(kinds), [0, 1, 2])
        self.assertTrue(min(kinds.values()) > 10, kinds)

    def test_5_the_text_tells_the_same_again(self):
        dice = random.Random(34)
        for time in range(60):
            events = dice.randint(2, 12)
            lines = random_lines(dice, events)
            calls = [TEXT, clash(ALL), LIARS] + [bounds(ALL, 0, f) for f in range(events)]
            calls += [bounds(g, g, g) for g in range(events)] + [life(ALL, p, events - 1) for p in range(2)]
            first = ask(read("\n".join(lines)), *calls)
            self.assertEqual(as_text(first[1][1:]), "\n".join(lines))
            self.assertEqual(ask(read(first[1][1:]), *calls), first)


if __name__ == "__main__":
    unittest.main()
