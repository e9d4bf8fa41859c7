"""Answers beside those of the plain model, for many small tellings."""

import random
import unittest
from fractions import Fraction

from tests.asking import (LAST_READING, LIARS, NEEDLESS, age, ask_of, bounds, chain, clash, clock, could, learned, life,
                          limits_of, living, moments_of, order, over, past, pinned, shows, value_of, world)
from tests.plain_model import Model, is_less_than_0

RATES = ["1/2", "2/3", "1", "1", "3/2", "2"]


def random_lines(dice, events):
    """A telling of that many events with small numbers, so that much is alike; it may contradict."""
    nodes = dice.randint(1, 3)
    lines = []
    shown = []
    for name in "abc"[:nodes]:
        pair = sorted(dice.sample(range(len(RATES)), 2))
        lines.append(f"node {name} {RATES[pair[0]]} {RATES[pair[1]]}")
        shown.append(0)
    of = []
    for event in range(events):
        node = dice.randrange(nodes)
        if dice.random() < 0.15:
            lines.append(f"cut {'abc'[node]}")
            shown[node] = 0
        shown[node] += dice.choice([0, 1, 1, 2, 3, 9])
        lines.append(f"at {'abc'[node]} {shown[node]}")
        of.append(node)
    for word in range(dice.randint(0, 5)):
        e, f = dice.randrange(events), dice.randrange(events)
        if of[e] != of[f]:
            if e > f and dice.random() < 0.7:
                e, f = f, e
            least = dice.randint(0, 3)
            lines.append(f"word {e} {f} {least} {dice.choice(['-', least, least + 1, least + 3])}")
    for moment in range(dice.randint(0, 3)):
        e = dice.randrange(events)
        first = dice.randint(0, 6) + e
        lines.append(f"moment {e} {first} {dice.choice(['-', first, first + 2])}")
    for name in "pq":
        lines.append(f"parcel {name} {dice.randrange(events)} {dice.randint(1, 6)}")
    return lines


def order_of(least, greatest):
    """1, 2 and 4 by trying differences within the bounds."""
    tries = [0, 1000, -1000]
    for limit in (least, greatest):
        if limit is not None:
            tries += [limit[0], limit[0] / 2]
            tries += [limit[0] + sign * limit[0].__class__(1, 1000) for sign in (1, -1)]
    if least is not None and greatest is not None:
        tries += [(least[0] + greatest[0]) / 2]
    fits = [number for number in tries
            if (least is None or number > least[0] or (number == least[0] and not least[1]))
            and (greatest is None or number < greatest[0] or (number == greatest[0] and not greatest[1]))]
    return ((1 if any(number > 0 for number in fits) else 0) + (2 if 0 in fits else 0)
            + (4 if any(number < 0 for number in fits) else 0))


def life_of(least, greatest, told):
    if least is not None and least[0] >= told:
        return 2
    if greatest is not None and (greatest[0] < told or (greatest[0] == told and greatest[1])):
        return 0
    return 1


class BesideTheModel(unittest.TestCase):
    def check_pair(self, model, lines, g, e, f):
        known = model.known(g)
        steps = model.steps(g)
        found = ask_of(lines, bounds(g, e, f), chain(g, e, f), order(g, e, f))
        if e not in known or f not in known:
            self.assertEqual(found, [[-6]] * 3)
            return
        if model.contradicts(steps):
            self.assertEqual(found, [[-8]] * 3)
            return
        back = model.limit(steps, f, e)
        least = None if back is None else (-back[0], back[1])
        greatest = model.limit(steps, e, f)
        self.assertEqual(limits_of(found[0]), [least, greatest])
        points = model.chain(steps, e, f)
        self.assertEqual(found[1], [len(points)] + points)
        self.assertEqual(found[2], [order_of(least, greatest)])
        if points:
            self.assertEqual(model.shows(steps, points), greatest)

    def check_life(self, model, lines, g, p, f):
        event, told = model.parcels[p]
        known = model.known(g)
        found = ask_of(lines, life(g, p, f), bounds(g, event, f))
        if event not in known or f not in known or model.contradicts(model.steps(g)):
            self.assertEqual(found[0], found[1])
            self.assertIn(found[0], ([-6], [-8]))
            return
        least, greatest = limits_of(found[1])
        self.assertEqual(found[0], [life_of(least, greatest, told)])

    def check_clash(self, model, lines, g):
        steps = model.steps(g)
        ring = model.ring(steps)
        self.assertEqual(bool(ring), model.contradicts(steps))
        found = ask_of(lines, clash(g))[0]
        self.assertEqual(found, [len(ring)] + ring)
        if ring:
            whole = limits_of(ask_of(lines, shows(g, ring + ring[:1]))[0])[0]
            self.assertTrue(is_less_than_0(whole))

    def check_shows(self, model, lines, g, points):
        found = ask_of(lines, shows(g, points))[0]
        if any(point != -1 and point not in model.known(g) for point in points):
            self.assertEqual(found, [-4])
        else:
            self.assertEqual(limits_of(found), [model.shows(model.steps(g), points)])

    def check_next(self, model, lines, p, number, contradicts):
        name, least = model.next_readings(number)
        first, last = ask_of(lines, over(p, number), living(p, number))
        if contradicts:
            self.assertEqual([first, last] + ask_of(lines, age(p, number, least)), [[-8]] * 3)
            return "contradicts"
        readings = [least, least + 1, least + 2, least + 5, LAST_READING]
        readings += [reading + more for reading in first[1:] + last[1:] for more in (-1, 0, 1)]
        for reading in readings:
            if not least <= reading <= LAST_READING:
                continue
            judged, lower, upper = model.age(p, number, reading)
            found = ask_of(lines, age(p, number, reading))[0]
            self.assertEqual(found[0], judged)
            self.assertEqual(limits_of([0] + found[1:]), [lower, upper])
            self.assertEqual(judged == 2, first[0] == 1 and reading >= first[1], (first, reading))
            self.assertEqual(judged == 0, last[0] == 1 and reading <= last[1], (last, reading))
        return (first[0], last[0])

    def check_worlds(self, dice, model, lines, g, contradicts):
        known = sorted(model.known(g))
        e, f = dice.choice(known), dice.choice(known)
        number = dice.choice([0, 1, -1, 2, 3]) + Fraction(dice.randint(0, 3), dice.choice([1, 2, 3, 4]))
        found = ask_of(lines, world(g), pinned(g, e, f, str(number)), *[clock(g, event) for event in known])
        if contradicts:
            self.assertEqual(found, [[-8]] * len(found))
            return "contradicts"
        steps = model.steps(g)
        moments = model.world(steps, g)
        self.assertEqual((found[0][0], moments_of(found[0][1:])), (0, moments))
        for place, event in enumerate(known):
            self.assertEqual(value_of(found[2 + place]), model.clock(moments, event))
        pins = model.pin(steps, e, f, number)
        if model.contradicts(pins):
            self.assertEqual(found[1], [0])
            return "not so"
        self.assertEqual((found[1][0], moments_of(found[1][1:])), (1, model.world(pins, g)))
        return "pinned"

    def check_knowledge(self, dice, model, lines, contradicts):
        event = dice.randrange(len(model.events))
        number = dice.randrange(len(model.nodes))
        p = dice.randrange(2)
        readings = range(0, 16, 3) if dice.random() < 0.5 else range(0, 6)
        found = ask_of(lines, past(event), learned(p, number), NEEDLESS, *[could(event, number, c) for c in readings])
        self.assertEqual(found[0], [0] + sorted(model.known(event)))
        self.assertEqual(found[1], model.learned(p, number))
        if contradicts:
            self.assertEqual(found[2:], [[-8]] * (1 + len(readings)))
            return [found[1][0], "contradicts"]
        words, moments = model.needless()
        self.assertEqual(found[2], [len(words)] + words + moments)
        self.assertEqual(found[3:], [[1 if model.could(event, number, c) else 0] for c in readings])
        return [found[1][0], "words" if words else "no word", "moments" if moments else "no moment"]

    def test_next_readings_worlds_and_knowledge(self):
        dice = random.Random(22)
        kinds = {}
        for time in range(400):
            events = dice.randint(1, 5)
            lines = random_lines(dice, events)
            model = Model(lines)
            g = dice.choice([-1] + list(range(events)))
            with self.subTest(lines=lines, g=g):
                contradicts = model.contradicts(model.steps(-1))
                number = dice.randrange(len(model.nodes))
                came = [("next", self.check_next(model, lines, dice.randrange(2), number, contradicts))]
                came += [("world", self.check_worlds(dice, model, lines, g, model.contradicts(model.steps(g))))]
                came += [("known", kind) for kind in self.check_knowledge(dice, model, lines, contradicts)]
                for kind in came:
                    kinds[kind] = kinds.get(kind, 0) + 1
        # All kinds of answers are to come up, but that of living without over, which is rare.
        self.assertGreaterEqual(len(kinds), 4 + 3 + 7, kinds)

    def test_long_worlds(self):
        dice = random.Random(23)
        done = 0
        for time in range(12):
            events = dice.randint(10, 20)
            lines = random_lines(dice, events)
            model = Model(lines)
            g = dice.choice([-1, events - 1, events - 2])
            steps = model.steps(g)
            if model.ring(steps):
                continue
            done += 1
            with self.subTest(lines=lines, g=g):
                found = ask_of(lines, world(g), clock(g, max(model.known(g))))
                moments = model.world(steps, g)
                self.assertEqual(moments_of(found[0][1:]), moments)
                self.assertEqual(value_of(found[1]), model.clock(moments, max(moments)))
        self.assertGreater(done, 3)

    def test_small_tellings(self):
        dice = random.Random(20)
        kinds = {}
        for time in range(500):
            events = dice.randint(2, 5)
            lines = random_lines(dice, events)
            model = Model(lines)
            g = dice.choice([-1] + list(range(events)))
            with self.subTest(lines=lines, g=g):
                self.check_pair(model, lines, g, dice.randrange(events), dice.randrange(events))
                self.check_pair(model, lines, -1, dice.randrange(events), dice.randrange(events))
                self.check_life(model, lines, g, dice.randrange(2), dice.randrange(events))
                self.check_clash(model, lines, g)
                self.check_clash(model, lines, -1)
                self.check_shows(model, lines, g, [dice.randrange(-1, events) for point in range(dice.randint(1, 4))])
                liars = model.liars()
                self.assertEqual(ask_of(lines, LIARS)[0], liars)
                kinds[liars[0]] = kinds.get(liars[0], 0) + 1
        # All kinds of answers are to come up.
        self.assertEqual(sorted(set(kinds) & {-8, 0, 1}), [-8, 0, 1])

    def test_long_tellings(self):
        dice = random.Random(21)
        clashes = 0
        for time in range(12):
            events = dice.randint(10, 20)
            lines = random_lines(dice, events)
            model = Model(lines)
            steps = model.steps(-1)
            e, f = dice.randrange(events), dice.randrange(events)
            with self.subTest(lines=lines, e=e, f=f):
                ring = model.ring(steps)
                rung, chained, bound = ask_of(lines, clash(-1), chain(-1, e, f), bounds(-1, e, f))
                self.assertEqual(rung, [len(ring)] + ring)
                if ring:
                    clashes += 1
                    self.assertEqual([chained, bound], [[-8], [-8]])
                    continue
                points = model.chain(steps, e, f)
                self.assertEqual(chained, [len(points)] + points)
                t, way = model.tables(steps)
                back = t(len(model.points), f, e)
                least = None if back is None else (-back[0], back[1])
                self.assertEqual(limits_of(bound), [least, t(len(model.points), e, f)])
        self.assertTrue(0 < clashes < 12, clashes)


if __name__ == "__main__":
    unittest.main()
