"""The promises."""

import random
import unittest
from fractions import Fraction
from math import ceil, floor

from tests.asking import (ALL, LAST_READING, LIARS, NEEDLESS, TEXT, TOLD, age, as_text, ask, ask_of, bounds, chain, clash,
                          clock, could, learned, life, limits_of, living, moments_of, order, over, past, pinned, read, shows,
                          value_of, world)
from tests.plain_model import Model, tighter
from tests.test_model import random_lines


def random_world(dice, events):
    """True moments of events, and lines that were told of them by clocks that kept their rates."""
    names = "abc"[:dice.randint(1, 3)]
    rates = {}
    lines = []
    for name in names:
        lowest = Fraction(dice.randint(1, 6), dice.randint(1, 6))
        rates[name] = (lowest, lowest + Fraction(dice.randint(0, 4), dice.randint(1, 6)))
        lines.append(f"node {name} {rates[name][0]} {rates[name][1]}")
    moments, of = [], []
    value = {name: Fraction(dice.randint(0, 30), 7) for name in names}
    last = {name: Fraction(0) for name in names}
    now = Fraction(0)
    for event in range(events):
        now += Fraction(dice.choice([0, 1, 3, 10, 40]), dice.choice([1, 2, 3]))
        name = dice.choice(names)
        lowest, highest = rates[name]
        value[name] += (now - last[name]) * (lowest + (highest - lowest) * Fraction(dice.randint(0, 4), 4))
        last[name] = now
        if dice.random() < 0.15:
            lines.append(f"cut {name}")
            value[name] = Fraction(dice.randint(0, 30), 7)
        lines.append(f"at {name} {floor(value[name])}")
        moments.append(now)
        of.append(name)
    for word in range(dice.randint(0, 4)):
        e, f = sorted((dice.randrange(events), dice.randrange(events)))
        lag = moments[f] - moments[e]
        if of[e] != of[f]:
            greatest = dice.choice(["-", ceil(lag), ceil(lag) + 2])
            lines.append(f"word {e} {f} {max(0, floor(lag) - dice.choice([0, 0, 2]))} {greatest}")
    for moment in range(dice.randint(0, 2)):
        e = dice.randrange(events)
        lines.append(f"moment {e} {floor(moments[e])} {dice.choice(['-', ceil(moments[e])])}")
    lines.append(f"parcel p {dice.randrange(events)} {dice.randint(1, 12)}")
    return moments, lines


def is_within(number, least, greatest):
    return ((least is None or number > least[0] or (number == least[0] and not least[1]))
            and (greatest is None or number < greatest[0] or (number == greatest[0] and not greatest[1])))


def differences(least, greatest):
    """Differences at the bounds, close to them and between them."""
    tries = [Fraction(0)]
    for limit in (least, greatest):
        if limit is not None:
            tries += [limit[0], limit[0] + Fraction(1, 10**9), limit[0] - Fraction(1, 10**9), limit[0] + 1, limit[0] - 1]
    if least is not None and greatest is not None:
        tries.append((least[0] + greatest[0]) / 2)
    return tries


def can_be(model, steps, *more):
    """Whether there's a world that keeps these steps besides."""
    whole = dict(steps)
    for u, v, number, is_open in more:
        whole[u, v] = tighter(whole.get((u, v)), (Fraction(number), is_open))
    return not model.contradicts(whole)


def is_kept(steps, moments):
    """Whether these moments keep all steps between them and -1."""
    whole = {-1: Fraction(0), **moments}
    for (u, v), limit in steps.items():
        if limit is not None and u in whole and v in whole and not is_within(whole[v] - whole[u], None, limit):
            return False
    return True


def runs_of(model, known):
    """The known events of each run."""
    runs = {}
    for event in known:
        runs.setdefault(model.events[event][:2], []).append(event)
    return runs


def names_event(line, event):
    """Whether a word, moment or parcel is of that event."""
    parts = line.split(" ")
    places = {"word": (1, 2), "moment": (1,), "parcel": (2,)}.get(parts[0], ())
    return any(parts[place] == str(event) for place in places)


class Promises(unittest.TestCase):
    def test_1_what_was_lies_within(self):
        dice = random.Random(30)
        for time in range(150):
            events = dice.randint(1, 12)
            moments, lines = random_world(dice, events)
            g = dice.choice([ALL] + list(range(events)))
            known = sorted(Model(lines).known(g))
            e, f = dice.choice(known), dice.choice(known)
            with self.subTest(lines=lines, g=g, e=e, f=f):
                found = ask_of(lines, bounds(g, e, f), clash(g), LIARS, order(g, e, f), chain(g, e, f))
                least, greatest = limits_of(found[0])
                self.assertTrue(is_within(moments[f] - moments[e], least, greatest))
                self.assertEqual(found[1:3], [[0], [0]])
                real = 1 if moments[f] > moments[e] else 2 if moments[f] == moments[e] else 4
                self.assertEqual(found[3][0] & real, real)
                if greatest is not None:
                    self.assertEqual(limits_of(ask_of(lines, shows(g, found[4][1:]))[0]), [greatest])

    def test_1_every_difference_within_is_that_of_a_world(self):
        dice = random.Random(31)
        for time in range(120):
            events = dice.randint(2, 4)
            moments, lines = random_world(dice, events)
            model = Model(lines)
            g = dice.choice([ALL] + list(range(events)))
            known = sorted(model.known(g))
            e, f = dice.choice(known), dice.choice(known)
            steps = model.steps(g)
            with self.subTest(lines=lines, g=g, e=e, f=f):
                least, greatest = limits_of(ask_of(lines, bounds(g, e, f))[0])
                if e == f:
                    self.assertEqual([least, greatest], [(0, False), (0, False)])
                    continue
                for number in differences(least, greatest):
                    pinned = can_be(model, steps, (e, f, number, False), (f, e, -number, False))
                    self.assertEqual(pinned, is_within(number, least, greatest), number)

    def test_1_pinned_just_within_the_bounds(self):
        dice = random.Random(35)
        kinds = {}
        for time in range(120):
            events = dice.randint(1, 12)
            moments, lines = random_world(dice, events)
            model = Model(lines)
            g = dice.choice([ALL] + list(range(events)))
            known = sorted(model.known(g))
            e, f = dice.choice(known), dice.choice(known)
            steps = model.steps(g)
            with self.subTest(lines=lines, g=g, e=e, f=f):
                least, greatest = limits_of(ask_of(lines, bounds(g, e, f))[0])
                tries = differences(least, greatest) + [moments[f] - moments[e]]
                found = ask_of(lines, *[pinned(g, e, f, str(number)) for number in tries])
                for number, answer in zip(tries, found):
                    self.assertEqual(answer[0], 1 if is_within(number, least, greatest) else 0, number)
                    kinds[e == f, answer[0]] = kinds.get((e == f, answer[0]), 0) + 1
                    if answer[0] == 0:
                        self.assertEqual(answer, [0])
                        continue
                    there = moments_of(answer[1:])
                    self.assertEqual(sorted(there), known)
                    self.assertEqual(there[f] - there[e], number)
                    self.assertTrue(is_kept(steps, there))
        self.assertEqual(len(kinds), 4)
        self.assertTrue(min(kinds.values()) > 20, kinds)

    def test_2_a_worlds_clocks_can_be(self):
        dice = random.Random(36)
        inner = 0
        for time in range(120):
            events = dice.randint(1, 14)
            moments, lines = random_world(dice, events)
            model = Model(lines)
            g = dice.choice([ALL] + list(range(events)))
            known = sorted(model.known(g))
            with self.subTest(lines=lines, g=g):
                found = ask_of(lines, world(g), *[clock(g, event) for event in known])
                there = moments_of(found[0][1:])
                self.assertEqual(sorted(there), known)
                self.assertTrue(is_kept(model.steps(g), there))
                values = {event: value_of(answer) for event, answer in zip(known, found[1:])}
                for event in known:
                    self.assertEqual(floor(values[event]), model.events[event][2])
                    inner += values[event] != model.events[event][2]
                for (name, run), of_run in runs_of(model, known).items():
                    lowest, highest = model.rates_of(name)
                    for before, behind in zip(of_run, of_run[1:]):
                        stretch = there[behind] - there[before]
                        self.assertTrue(lowest * stretch <= values[behind] - values[before] <= highest * stretch)
        # Clocks that show more than the bare reading are to come up.
        self.assertGreater(inner, 30)

    def test_2_worlds_of_tellings_by_chance(self):
        dice = random.Random(37)
        done = 0
        for time in range(150):
            events = dice.randint(1, 9)
            lines = random_lines(dice, events)
            model = Model(lines)
            answer = ask_of(lines, world(ALL))[0]
            if answer == [-8]:
                continue
            done += 1
            self.assertTrue(is_kept(model.steps(ALL), moments_of(answer[1:])), lines)
            for event in range(events):
                self.assertEqual(floor(value_of(ask_of(lines, clock(ALL, event))[0])), model.events[event][2], lines)
        self.assertGreater(done, 40)

    def test_3_contradicts_just_if_a_ring_shows_it(self):
        dice = random.Random(32)
        clashes = 0
        for time in range(200):
            events = dice.randint(2, 5)
            lines = random_lines(dice, events)
            g = dice.choice([ALL] + list(range(events)))
            with self.subTest(lines=lines, g=g):
                model = Model(lines)
                contradicts = model.contradicts(model.steps(g))
                e = 0 if g == ALL else g
                ring, bound = ask_of(lines, clash(g), bounds(g, e, e))
                self.assertEqual(ring[0] > 0, contradicts)
                self.assertEqual(bound == [-8], contradicts)
                if contradicts:
                    clashes += 1
                    limit = limits_of(ask_of(lines, shows(g, ring[1:] + ring[1:2]))[0])[0]
                    self.assertTrue(limit[0] < 0 or limit == (0, True))
        self.assertTrue(20 < clashes < 180, clashes)

    def test_4_a_parcel_told_to_be_over_is_over_in_every_world(self):
        dice = random.Random(33)
        kinds = {}
        for time in range(300):
            events = dice.randint(2, 4)
            moments, lines = random_world(dice, events)
            model = Model(lines)
            event, told = model.parcels[0]
            f = dice.randrange(events)
            g = dice.choice([ALL, f])
            if event not in model.known(g):
                continue
            steps = model.steps(g)
            with self.subTest(lines=lines, g=g, f=f):
                found = ask_of(lines, life(g, 0, f))[0][0]
                kinds[found] = kinds.get(found, 0) + 1
                is_over = moments[f] - moments[event] >= told
                self.assertIn(found, (1, 2) if is_over else (0, 1))
                # It's told as soon as no world has it otherwise.
                self.assertEqual(found == 2, event != f and not can_be(model, steps, (event, f, told, True)))
                self.assertEqual(found == 0, event == f or not can_be(model, steps, (f, event, -told, False)))
        self.assertEqual(sorted(kinds), [0, 1, 2])
        self.assertTrue(min(kinds.values()) > 10, kinds)

    def test_4_what_a_next_reading_tells_is_so(self):
        dice = random.Random(38)
        kinds = {}
        for time in range(200):
            events = dice.randint(2, 10)
            moments, lines = random_world(dice, events)
            # The last event is left out, and told by its reading alone.
            place = max(place for place, line in enumerate(lines) if line.startswith("at "))
            name, reading = lines[place].split(" ")[1:]
            last = events - 1
            rest = [line for line in lines[:place] + lines[place + 1:] if not names_event(line, last)]
            event, told = Model(lines).parcels[0]
            if event == last:
                continue
            number = [node[0] for node in Model(rest).nodes].index(name)
            with self.subTest(lines=rest, number=number):
                found = ask_of(rest, age(0, number, int(reading)), over(0, number), living(0, number),
                               could(event, number, int(reading)))
                least, greatest = limits_of([0] + found[0][1:])
                real = moments[last] - moments[event]
                self.assertTrue(is_within(real, least, greatest))
                self.assertIn(found[0][0], (1, 2) if real >= told else (0, 1))
                self.assertEqual(found[1][0] == 1 and found[1][1] <= int(reading), found[0][0] == 2)
                self.assertEqual(found[2][0] == 1 and found[2][1] >= int(reading), found[0][0] == 0)
                kinds[found[0][0]] = kinds.get(found[0][0], 0) + 1
                if real == 0:
                    self.assertEqual(found[3], [1])
        self.assertEqual(sorted(kinds), [0, 1, 2])

    def test_4_what_is_learned_is_so(self):
        dice = random.Random(39)
        done = 0
        for time in range(200):
            events = dice.randint(2, 10)
            moments, lines = random_world(dice, events)
            model = Model(lines)
            event, told = model.parcels[0]
            for number, node in enumerate(model.nodes):
                answer = ask_of(lines, learned(0, number))[0]
                own = [other for other in range(events) if model.events[other][0] == node[0]]
                lives = [ask_of(lines, life(other, 0, other))[0] for other in own]
                surely = [other for other, judged in zip(own, lives) if judged == [2]]
                self.assertEqual(answer, [1, surely[0]] if surely else [0], lines)
                if surely:
                    done += 1
                    self.assertGreaterEqual(moments[surely[0]] - moments[event], told)
        self.assertGreater(done, 20)

    def test_5_the_text_tells_the_same_again(self):
        dice = random.Random(34)
        for time in range(60):
            events = dice.randint(2, 12)
            lines = random_lines(dice, events)
            calls = [TEXT, clash(ALL), LIARS] + [bounds(ALL, 0, f) for f in range(events)]
            calls += [bounds(g, g, g) for g in range(events)] + [life(ALL, p, events - 1) for p in range(2)]
            calls += [TOLD, NEEDLESS, world(ALL), past(events - 1), clock(ALL, 0), over(0, 0), living(1, 0), learned(0, 0)]
            calls += [age(0, 0, LAST_READING), pinned(ALL, 0, 1, "1/2"), could(0, 0, 3)]
            first = ask(read("\n".join(lines)), *calls)
            self.assertEqual(as_text(first[1][1:]), "\n".join(lines))
            self.assertEqual(ask(read(first[1][1:]), *calls), first)


if __name__ == "__main__":
    unittest.main()
