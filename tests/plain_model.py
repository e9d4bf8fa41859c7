"""The document's words once more, written down as they stand and without any haste."""

from fractions import Fraction
from functools import lru_cache
from itertools import combinations, permutations


def tighter(first, second):
    """Of two limits (number, is open) or None the tighter one."""
    if first is None or second is None:
        return second if first is None else first
    return min(first, second, key=lambda limit: (limit[0], not limit[1]))


def come_to(first, second):
    if first is None or second is None:
        return None
    return (first[0] + second[0], first[1] or second[1])


def is_less_than_0(limit):
    return limit is not None and (limit[0] < 0 or (limit[0] == 0 and limit[1]))


class Model:
    def __init__(self, lines):
        self.lines = list(lines)
        self.cuts = {}
        self.nodes, self.events, self.words, self.moments, self.parcels = [], [], [], [], []
        cuts = self.cuts
        for line in lines:
            kind, *parts = line.split(" ")
            if kind == "node":
                self.nodes.append((parts[0], Fraction(parts[1]), Fraction(parts[2])))
            elif kind == "at":
                self.events.append((parts[0], cuts.get(parts[0], 0), int(parts[1])))
            elif kind == "cut":
                cuts[parts[0]] = cuts.get(parts[0], 0) + 1
            elif kind == "word":
                self.words.append((int(parts[0]), int(parts[1]), int(parts[2]), self.most(parts[3])))
            elif kind == "moment":
                self.moments.append((int(parts[0]), int(parts[1]), self.most(parts[2])))
            else:
                self.parcels.append((int(parts[1]), int(parts[2])))
        self.points = list(range(-1, len(self.events)))

    def most(self, text):
        return None if text == "-" else int(text)

    def rates_of(self, name):
        return next(node[1:] for node in self.nodes if node[0] == name)

    def known(self, g):
        if g == -1:
            return set(range(len(self.events)))
        found = {g}
        while True:
            more = {e for f in found for e in range(f) if self.events[e][0] == self.events[f][0]}
            more |= {word[0] for word in self.words if word[1] in found}
            if more <= found:
                return found
            found |= more

    def steps(self, g, left_out=()):
        """All steps (u, v, limit), then the tightest of each two points."""
        rows = []
        for later, (name, run, b) in enumerate(self.events):
            for earlier, (other, other_run, a) in enumerate(self.events[:later]):
                if name == other:
                    rows.append((later, earlier, (Fraction(0), False)))
                if name == other and run == other_run and name not in left_out:
                    lowest, highest = self.rates_of(name)
                    rows.append((earlier, later, ((b + 1 - a) / lowest, True)))
                    rows.append((later, earlier, ((a + 1 - b) / highest, True)))
        for e, f, least, greatest in self.words:
            rows.append((e, f, None if greatest is None else (Fraction(greatest), False)))
            rows.append((f, e, (Fraction(-least), False)))
        for e, first, latest in self.moments:
            rows.append((-1, e, None if latest is None else (Fraction(latest), False)))
            rows.append((e, -1, (Fraction(-first), False)))
        known = self.known(g) | {-1}
        found = {(point, point): (Fraction(0), False) for point in self.points}
        for u, v, limit in rows:
            if u in known and v in known:
                found[u, v] = tighter(found.get((u, v)), limit)
        return found

    def shows(self, steps, points):
        limit = (Fraction(0), False)
        for u, v in zip(points, points[1:]):
            limit = come_to(limit, steps.get((u, v)))
        return limit

    def chains(self, u, v):
        """All chains from u to v that come to no point twice."""
        others = [point for point in self.points if point not in (u, v)]
        for size in range(len(others) + 1):
            for middle in permutations(others, size):
                yield (u,) + middle + ((v,) if u != v or size else ())

    def limit(self, steps, u, v):
        best = None
        for points in self.chains(u, v):
            best = tighter(best, self.shows(steps, points))
        return best

    def contradicts(self, steps):
        if any(is_less_than_0(steps.get((u, u))) for u in self.points):
            return True
        return any(is_less_than_0(self.shows(steps, points)) for u in self.points for points in self.chains(u, u))

    def tables(self, steps):
        """T and the way, as they're told."""

        @lru_cache(maxsize=None)
        def t(k, p, v):
            if k == 0:
                return (Fraction(0), False) if p == v else None
            best = None
            for q in self.points:
                best = tighter(best, come_to(steps.get((p, q)), t(k - 1, q, v)))
            return best

        def way(k, p, v):
            j = min(j for j in range(k + 1) if t(j, p, v) == t(k, p, v))
            if j == 0:
                return [p]
            q = min(q for q in self.points if q != p and come_to(steps.get((p, q)), t(j - 1, q, v)) == t(j, p, v))
            return [p] + way(j - 1, q, v)

        return t, way

    def chain(self, steps, e, f):
        t, way = self.tables(steps)
        if t(len(self.points), e, f) is None:
            return []
        return way(len(self.points), e, f)

    def ring(self, steps):
        t, way = self.tables(steps)
        for k in range(1, len(self.points) + 1):
            for v in self.points:
                for q in self.points:
                    if q != v and is_less_than_0(come_to(steps.get((v, q)), t(k, q, v))):
                        return [v] + way(k, q, v)[:-1]
        return []

    def liars(self):
        for size in range(len(self.nodes) + 1):
            for numbers in combinations(range(len(self.nodes)), size):
                if not self.contradicts(self.steps(-1, [self.nodes[number][0] for number in numbers])):
                    return [size] + list(numbers)
        return [-8]

    def all_limits(self, steps):
        """The limits between all points, by chains of as many steps as there are points; right where nothing contradicts."""
        t, way = self.tables(steps)
        return {(u, v): t(len(self.points), u, v) for u in self.points for v in self.points}

    def next_readings(self, number):
        """The name of a node, and the least of its next readings."""
        name = self.nodes[number][0]
        shown = [reading for other, run, reading in self.events if (other, run) == (name, self.cuts.get(name, 0))]
        return name, shown[-1] if shown else 0

    def age(self, p, number, reading):
        """Life's answer and the bounds of the age at an event more, which is told besides."""
        more = Model(self.lines + [f"at {self.nodes[number][0]} {reading}"])
        event, told = self.parcels[p]
        steps = more.steps(-1)
        t, way = more.tables(steps)
        last, size = len(self.events), len(more.points)
        back, greatest = t(size, last, event), t(size, event, last)
        least = None if back is None else (-back[0], back[1])
        if least is not None and least[0] >= told:
            return 2, least, greatest
        if is_less_than_0(come_to(greatest, (Fraction(-told), False))):
            return 0, least, greatest
        return 1, least, greatest

    def world(self, steps, g):
        limits = self.all_limits(steps)
        moments = {-1: Fraction(0)}
        for event in sorted(self.known(g)):
            earliest = [moment - limits[event, point][0] for point, moment in moments.items() if limits[event, point]]
            latest = [moment + limits[point, event][0] for point, moment in moments.items() if limits[point, event]]
            if earliest and latest:
                moments[event] = (max(earliest) + min(latest)) / 2
            elif earliest:
                moments[event] = max(earliest) + 1
            elif latest:
                moments[event] = min(latest) - 1
            else:
                moments[event] = Fraction(0)
        del moments[-1]
        return moments

    def pin(self, steps, e, f, number):
        return self.besides(steps, [(e, f, (Fraction(number), False)), (f, e, (-Fraction(number), False))])

    def besides(self, steps, rows):
        whole = dict(steps)
        for u, v, limit in rows:
            whole[u, v] = tighter(whole.get((u, v)), limit)
        return whole

    def clock(self, moments, e):
        """What e's clock shows exactly in a world of known events."""
        name, run, reading = self.events[e]
        lowest, highest = self.rates_of(name)
        values = [Fraction(reading)]
        for d in moments:
            if self.events[d][:2] == (name, run):
                rate = lowest if d <= e else highest
                values.append(self.events[d][2] + rate * (moments[e] - moments[d]))
        return max(values)

    def needless(self):
        """The numbers of needless words, then those of needless moments, by leaving out their lines."""
        whole = self.all_limits(self.steps(-1))
        found = []
        for kind in ("word ", "moment "):
            places = [place for place, line in enumerate(self.lines) if line.startswith(kind)]
            found.append([])
            for number, place in enumerate(places):
                less = Model(self.lines[:place] + self.lines[place + 1:])
                if less.all_limits(less.steps(-1)) == whole:
                    found[-1].append(number)
        return found

    def could(self, e, number, c):
        name = self.nodes[number][0]
        lowest, highest = self.rates_of(name)
        rows = []
        for g, (other, run, r) in enumerate(self.events):
            if other != name:
                continue
            if run != self.cuts.get(name, 0):
                rows.append((e, g, (Fraction(0), False)))
            elif r < c:
                rows.append((g, e, ((c + 1 - r) / lowest, True)))
                rows.append((e, g, ((r + 1 - c) / highest, True)))
                rows.append((e, g, (Fraction(0), False)))
            elif c < r:
                rows.append((e, g, ((r + 1 - c) / lowest, True)))
                rows.append((g, e, ((c + 1 - r) / highest, True)))
                rows.append((g, e, (Fraction(0), False)))
            else:
                rows.append((g, e, (1 / lowest, True)))
                rows.append((e, g, (1 / lowest, True)))
        return not self.contradicts(self.besides(self.steps(-1), rows))

    def learned(self, p, number):
        event, told = self.parcels[p]
        for g, (name, run, reading) in enumerate(self.events):
            steps = self.steps(g)
            if name != self.nodes[number][0] or event not in self.known(g) or self.contradicts(steps):
                continue
            back = self.limit(steps, g, event)
            if back is not None and -back[0] >= told:
                return [1, g]
        return [0]
