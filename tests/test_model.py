"""Answers beside those of the plain model, for many small tellings."""

import random
import unittest

from tests.asking import LIARS, ask_of, bounds, chain, clash, life, limits_of, order, shows
from tests.plain_model import Model, is_less_than_0

RATES = ["1/2", "2/3", "1", "1", "3/2", "2"]


def random_lines(dice, events):
    """A telling of that many events with small numbers, so that much is alike; it may contradict."""
    nodes = dice.randint(1, 3)
    lines = []
    shown = []
    for name in "abc"[:nodes]:
        pair = sorted(dice.sample(range(len(RATES)), 2))
        lines.append(f"node {name} {RATES[pair[0]]} {RATES[pair[1]]}")
        shown.append(0)
    of = []
    for event in range(events):
        node = dice.randrange(nodes)
        if dice.random() < 0.15:
            lines.append(f"cut {'abc'[node]}")
            shown[node] = 0
        shown[node] += dice.choice([0, 1, 1, 2, 3, 9])
        lines.append(f"at {'abc'[node]} {shown[node]}")
        of.append(node)
    for word in range(dice.randint(0, 5)):
        e, f = dice.randrange(events), dice.randrange(events)
        if of[e] != of[f]:
            if e > f and dice.random() < 0.7:
                e, f = f, e
            least = dice.randint(0, 3)
            lines.append(f"word {e} {f} {least} {dice.choice(['-', least, least + 1, least + 3])}")
    for moment in range(dice.randint(0, 3)):
        e = dice.randrange(events)
        first = dice.randint(0, 6) + e
        lines.append(f"moment {e} {first} {dice.choice(['-', first, first + 2])}")
    for name in "pq":
        lines.append(f"parcel {name} {dice.randrange(events)} {dice.randint(1, 6)}")
    return lines


def order_of(least, greatest):
    """1, 2 and 4 by trying differences within the bounds."""
    tries = [0, 1000, -1000]
    for limit in (least, greatest):
        if limit is not None:
            tries += [limit[0], limit[0] / 2]
            tries += [limit[0] + sign * limit[0].__class__(1, 1000) for sign in (1, -1)]
    if least is not None and greatest is not None:
        tries += [(least[0] + greatest[0]) / 2]
    fits = [number for number in tries
            if (least is None or number > least[0] or (number == least[0] and not least[1]))
            and (greatest is None or number < greatest[0] or (number == greatest[0] and not greatest[1]))]
    return ((1 if any(number > 0 for number in fits) else 0) + (2 if 0 in fits else 0)
            + (4 if any(number < 0 for number in fits) else 0))


def life_of(least, greatest, told):
    if least is not None and least[0] >= told:
        return 2
    if greatest is not None and (greatest[0] < told or (greatest[0] == told and greatest[1])):
        return 0
    return 1


class BesideTheModel(unittest.TestCase):
    def check_pair(self, model, lines, g, e, f):
        known = model.known(g)
        steps = model.steps(g)
        found = ask_of(lines, bounds(g, e, f), chain(g, e, f), order(g, e, f))
        if e not in known or f not in known:
            self.assertEqual(found, [[-6]] * 3)
            return
        if model.contradicts(steps):
            self.assertEqual(found, [[-8]] * 3)
            return
        back = model.limit(steps, f, e)
        least = None if back is None else (-back[0], back[1])
        greatest = model.limit(steps, e, f)
        self.assertEqual(limits_of(found[0]), [least, greatest])
        points = model.chain(steps, e, f)
        self.assertEqual(found[1], [len(points)] + points)
        self.assertEqual(found[2], [order_of(least, greatest)])
        if points:
            self.assertEqual(model.shows(steps, points), greatest)

    def check_life(self, model, lines, g, p, f):
        event, told = model.parcels[p]
        known = model.known(g)
        found = ask_of(lines, life(g, p, f), bounds(g, event, f))
        if event not in known or f not in known or model.contradicts(model.steps(g)):
            self.assertEqual(found[0], found[1])
            self.assertIn(found[0], ([-6], [-8]))
            return
        least, greatest = limits_of(found[1])
        self.assertEqual(found[0], [life_of(least, greatest, told)])

    def check_clash(self, model, lines, g):
        steps = model.steps(g)
        ring = model.ring(steps)
        self.assertEqual(bool(ring), model.contradicts(steps))
        found = ask_of(lines, clash(g))[0]
        self.assertEqual(found, [len(ring)] + ring)
        if ring:
            whole = limits_of(ask_of(lines, shows(g, ring + ring[:1]))[0])[0]
            self.assertTrue(is_less_than_0(whole))

    def check_shows(self, model, lines, g, points):
        found = ask_of(lines, shows(g, points))[0]
        if any(point != -1 and point not in model.known(g) for point in points):
            self.assertEqual(found, [-4])
        else:
            self.assertEqual(limits_of(found), [model.shows(model.steps(g), points)])

    def test_small_tellings(self):
        dice = random.Random(20)
        kinds = {}
        for time in range(500):
            events = dice.randint(2, 5)
            lines = random_lines(dice, events)
            model = Model(lines)
            g = dice.choice([-1] + list(range(events)))
            with self.subTest(lines=lines, g=g):
                self.check_pair(model, lines, g, dice.randrange(events), dice.randrange(events))
                self.check_pair(model, lines, -1, dice.randrange(events), dice.randrange(events))
                self.check_life(model, lines, g, dice.randrange(2), dice.randrange(events))
                self.check_clash(model, lines, g)
                self.check_clash(model, lines, -1)
                self.check_shows(model, lines, g, [dice.randrange(-1, events) for point in range(dice.randint(1, 4))])
                liars = model.liars()
                self.assertEqual(ask_of(lines, LIARS)[0], liars)
                kinds[liars[0]] = kinds.get(liars[0], 0) + 1
        # All kinds of answers are to come up.
        self.assertEqual(sorted(set(kinds) & {-8, 0, 1}), [-8, 0, 1])

    def test_long_tellings(self):
        dice = random.Random(21)
        clashes = 0
        for time in range(12):
            events = dice.randint(10, 20)
            lines = random_lines(dice, events)
            model = Model(lines)
            steps = model.steps(-1)
            e, f = dice.randrange(events), dice.randrange(events)
            with self.subTest(lines=lines, e=e, f=f):
                ring = model.ring(steps)
                rung, chained, bound = ask_of(lines, clash(-1), chain(-1, e, f), bounds(-1, e, f))
                self.assertEqual(rung, [len(ring)] + ring)
                if ring:
                    clashes += 1
                    self.assertEqual([chained, bound], [[-8], [-8]])
                    continue
                points = model.chain(steps, e, f)
                self.assertEqual(chained, [len(points)] + points)
                t, way = model.tables(steps)
                back = t(len(model.points), f, e)
                least = None if back is None else (-back[0], back[1])
                self.assertEqual(limits_of(bound), [least, t(len(model.points), e, f)])
        self.assertTrue(0 < clashes < 12, clashes)


if __name__ == "__main__":
    unittest.main()
