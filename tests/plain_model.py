"""The document's words once more, written down as they stand and without any haste."""

from fractions import Fraction
from functools import lru_cache
from itertools import combinations, permutations


def tighter(first, second):
    """Of two limits (number, is open) or None the tighter one."""
    if first is None or second is None:
        return second if first is None else first
    return min(first, second, key=lambda limit: (limit[0], not limit[1]))


def come_to(first, second):
    if first is None or second is None:
        return None
    return (first[0] + second[0], first[1] or second[1])


def is_less_than_0(limit):
    return limit is not None and (limit[0] < 0 or (limit[0] == 0 and limit[1]))


class Model:
    def __init__(self, lines):
        self.nodes, self.events, self.words, self.moments, self.parcels = [], [], [], [], []
        cuts = {}
        for line in lines:
            kind, *parts = line.split(" ")
            if kind == "node":
                self.nodes.append((parts[0], Fraction(parts[1]), Fraction(parts[2])))
            elif kind == "at":
                self.events.append((parts[0], cuts.get(parts[0], 0), int(parts[1])))
            elif kind == "cut":
                cuts[parts[0]] = cuts.get(parts[0], 0) + 1
            elif kind == "word":
                self.words.append((int(parts[0]), int(parts[1]), int(parts[2]), self.most(parts[3])))
            elif kind == "moment":
                self.moments.append((int(parts[0]), int(parts[1]), self.most(parts[2])))
            else:
                self.parcels.append((int(parts[1]), int(parts[2])))
        self.points = list(range(-1, len(self.events)))

    def most(self, text):
        return None if text == "-" else int(text)

    def rates_of(self, name):
        return next(node[1:] for node in self.nodes if node[0] == name)

    def known(self, g):
        if g == -1:
            return set(range(len(self.events)))
        found = {g}
        while True:
            more = {e for f in found for e in range(f) if self.events[e][0] == self.events[f][0]}
            more |= {word[0] for word in self.words if word[1] in found}
            if more <= found:
                return found
            found |= more

    def steps(self, g, left_out=()):
        """All steps (u, v, limit), then the tightest of each two points."""
        rows = []
        for later, (name, run, b) in enumerate(self.events):
            for earlier, (other, other_run, a) in enumerate(self.events[:later]):
                if name == other:
                    rows.append((later, earlier, (Fraction(0), False)))
                if name == other and run == other_run and name not in left_out:
                    lowest, highest = self.rates_of(name)
                    rows.append((earlier, later, ((b + 1 - a) / lowest, True)))
                    rows.append((later, earlier, ((a + 1 - b) / highest, True)))
        for e, f, least, greatest in self.words:
            rows.append((e, f, None if greatest is None else (Fraction(greatest), False)))
            rows.append((f, e, (Fraction(-least), False)))
        for e, first, latest in self.moments:
            rows.append((-1, e, None if latest is None else (Fraction(latest), False)))
            rows.append((e, -1, (Fraction(-first), False)))
        known = self.known(g) | {-1}
        found = {(point, point): (Fraction(0), False) for point in self.points}
        for u, v, limit in rows:
            if u in known and v in known:
                found[u, v] = tighter(found.get((u, v)), limit)
        return found

    def shows(self, steps, points):
        limit = (Fraction(0), False)
        for u, v in zip(points, points[1:]):
            limit = come_to(limit, steps.get((u, v)))
        return limit

    def chains(self, u, v):
        """All chains from u to v that come to no point twice."""
        others = [point for point in self.points if point not in (u, v)]
        for size in range(len(others) + 1):
            for middle in permutations(others, size):
                yield (u,) + middle + ((v,) if u != v or size else ())

    def limit(self, steps, u, v):
        best = None
        for points in self.chains(u, v):
            best = tighter(best, self.shows(steps, points))
        return best

    def contradicts(self, steps):
        return any(is_less_than_0(self.shows(steps, points)) for u in self.points for points in self.chains(u, u))

    def tables(self, steps):
        """T and the way, as they're told."""

        @lru_cache(maxsize=None)
        def t(k, p, v):
            if k == 0:
                return (Fraction(0), False) if p == v else None
            best = None
            for q in self.points:
                best = tighter(best, come_to(steps.get((p, q)), t(k - 1, q, v)))
            return best

        def way(k, p, v):
            j = min(j for j in range(k + 1) if t(j, p, v) == t(k, p, v))
            if j == 0:
                return [p]
            q = min(q for q in self.points if q != p and come_to(steps.get((p, q)), t(j - 1, q, v)) == t(j, p, v))
            return [p] + way(j - 1, q, v)

        return t, way

    def chain(self, steps, e, f):
        t, way = self.tables(steps)
        if t(len(self.points), e, f) is None:
            return []
        return way(len(self.points), e, f)

    def ring(self, steps):
        t, way = self.tables(steps)
        for k in range(1, len(self.points) + 1):
            for v in self.points:
                for q in self.points:
                    if q != v and is_less_than_0(come_to(steps.get((v, q)), t(k, q, v))):
                        return [v] + way(k, q, v)[:-1]
        return []

    def liars(self):
        for size in range(len(self.nodes) + 1):
            for numbers in combinations(range(len(self.nodes)), size):
                if not self.contradicts(self.steps(-1, [self.nodes[number][0] for number in numbers])):
                    return [size] + list(numbers)
        return [-8]
