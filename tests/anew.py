"""Drawings, sayings and Boards reckoned a second way, over numbers q + m times the root of r of fractions."""

from fractions import Fraction
from math import isqrt

from pointhouse.exacts import Exact
from tests.helper import letters_of


class Clash(Exception):
    """Two roots that don't go together."""


def is_square(many):
    return isqrt(many) ** 2 == many


class Root:
    """q + m times the root of r, a whole number that is no square (1 where m is 0)."""

    def __init__(self, q, m=0, r=1):
        self.q, self.m, self.r = Fraction(q), Fraction(m), r
        if is_square(r):
            self.q, self.m, self.r = self.q + self.m * isqrt(r), Fraction(0), 1
        if self.m == 0:
            self.r = 1

    def on(self, r):
        """The same as a multiple of the root of r."""
        if self.m == 0 or self.r == r:
            return self.m
        if not is_square(self.r * r):
            raise Clash
        return self.m * Fraction(isqrt(self.r * r), r)

    def with_other(self, other):
        if not isinstance(other, Root):
            other = Root(other)
        r = self.r if self.m else other.r
        return r, self.on(r), other.q, other.on(r)

    def __add__(self, other):
        r, mine, q, theirs = self.with_other(other)
        return Root(self.q + q, mine + theirs, r)

    def __neg__(self):
        return Root(-self.q, -self.m, self.r)

    def __sub__(self, other):
        return self + -other

    def __mul__(self, other):
        r, mine, q, theirs = self.with_other(other)
        return Root(self.q * q + mine * theirs * r, self.q * theirs + q * mine, r)

    def __truediv__(self, other):
        if not isinstance(other, Root):
            other = Root(other)
        norm = other.q ** 2 - other.m ** 2 * other.r
        return self * Root(other.q / norm, -other.m / norm, other.r)

    def is_nought(self):
        return self.q == 0 and self.m == 0

    def sign(self):
        lead = self.q ** 2 - self.m ** 2 * self.r
        part = self.q if lead > 0 else self.m
        return (part > 0) - (part < 0)

    def exact(self):
        square = self.m ** 2 * self.r
        sign = (self.m > 0) - (self.m < 0)
        return Exact(self.q.numerator, self.q.denominator, sign=sign, over=square.numerator, under=square.denominator)


def root_of(fraction):
    """The root of a fraction above 0."""
    return Root(0, Fraction(1, fraction.denominator), fraction.numerator * fraction.denominator)


def from_exact(number):
    return Root(Fraction(number.top, number.bottom), Fraction(number.sign, number.under), number.over * number.under)


def as_roots(thing):
    """A point, a line, a circle as a flat tuple of these numbers, None of None."""
    if thing is None:
        return None
    return tuple(from_exact(number) for part in thing for number in (part if isinstance(part, tuple) else (part,)))


def as_exacts(thing):
    """The same back."""
    if thing is None:
        return None
    numbers = tuple(number.exact() for number in thing)
    return ((numbers[0], numbers[1]), numbers[2]) if isinstance(thing, Circle) else numbers


class Circle(tuple):
    """(x, y, square), told from a line by its class."""


def go_together(numbers):
    rooted = [number for number in numbers if number.m]
    return all(is_square(rooted[0].r * number.r) for number in rooted)


def first_two_roots(numbers):
    """What TwoRoots tells of these Exacts, or None."""
    rooted = [number for number in numbers if number.sign]
    for other in rooted[1:]:
        if not is_square(rooted[0].over * rooted[0].under * other.over * other.under):
            return (rooted[0].over, rooted[0].under), (other.over, other.under)
    return None


def times_i(way, many=1):
    for _ in range(many):
        way = (-way[1], way[0])
    return way


def way(p, q):
    return q[0] - p[0], q[1] - p[1]


def dot(one, other):
    return one[0] * other[0] + one[1] * other[1]


def cross_sum(one, other):
    return one[0] * other[1] - one[1] * other[0]


def line_by(p, along):
    """The line through p along a way."""
    a, b = along[1], -along[0]
    lead = b if a.is_nought() else a
    return a / lead, b / lead, dot((a, b), p) / lead


class Drawer:
    """A sketch drawn by a hand, each cross by a function of its name and its two meets."""

    def __init__(self, sketch, hand, choose=None):
        self.steps = {step[1]: step for step in sketch}
        self.made = {}
        rest = [from_exact(number) if isinstance(number, Exact) else number for number in hand]
        self.choose = choose or (lambda name, meets: letters_of(self.steps[name])["k"])
        for step in sketch:
            by = letters_of(step)
            own = [rest.pop(0) for _ in range({"free": 2, "on": 1, "round": 1}.get(step[0], 0))]
            named = [self.made[by[letter]] for letter in by if letter in "PQOLMC"]
            self.made[step[1]] = None if None in named else self.thing(step, by, own, named)
        assert not rest

    def thing(self, step, by, own, named):
        if step[0] == "on":
            return self.on(by["L"], own[0])
        if not go_together([number for thing in named for number in thing]):
            return None
        at = {letter: self.made[name] for letter, name in by.items() if letter in "PQOLMC"}
        at.update(t=own, n=by.get("n"), N=by["N"])
        return getattr(self, step[0])(at)

    def way_of(self, name):
        by = letters_of(self.steps[name])
        if self.steps[name][0] == "line":
            return way(self.made[by["P"]], self.made[by["Q"]])
        return times_i(self.way_of(by["L"]), 1 if self.steps[name][0] == "upright" else 0)

    def on(self, name, t):
        first = self.made[self.steps[name][2]]
        x, y = self.way_of(name)
        x, y = x * t, y * t
        return (first[0] + x, first[1] + y) if go_together([*first, x, y]) else None

    def free(self, at):
        return tuple(at["t"])

    def round(self, at):
        circle = letters_of(self.steps[letters_of(self.steps[at["N"]])["C"]])
        o, p, t = self.made[circle["O"]], self.made[circle["P"]], at["t"][0]
        x, y = way(o, p)
        # The way times (1 + i t), twice, by 1 + t t.
        for _ in range(2):
            x, y = x - t * y, y + t * x
        bottom = t * t + 1
        return o[0] + x / bottom, o[1] + y / bottom

    def meet(self, at):
        (a, b, c), (d, e, f) = at["L"], at["M"]
        low = a * e - b * d
        return None if low.is_nought() else ((c * e - b * f) / low, (a * f - c * d) / low)

    def middle(self, at):
        return tuple((one + other) / 2 for one, other in zip(at["P"], at["Q"]))

    def mirror(self, at):
        (x, y), (a, b, c) = at["P"], at["L"]
        many = (a * x + b * y - c) / (a * a + b * b) * 2
        return x - a * many, y - b * many

    def foot(self, at):
        return tuple((one + other) / 2 for one, other in zip(at["P"], self.mirror(at)))

    def turn(self, at):
        x, y = times_i(way(at["O"], at["P"]), at["n"])
        return at["O"][0] + x, at["O"][1] + y

    def other(self, at):
        (a, b, _), (ox, oy, _), p = at["L"], at["C"], at["P"]
        along = (-b, a)
        many = dot(along, way(p, (ox, oy))) / dot(along, along) * 2
        return p[0] + along[0] * many, p[1] + along[1] * many

    def cross(self, at):
        (a, b, c), (ox, oy, square) = at["L"], at["C"]
        if any(number.m for number in (a, b, c, ox, oy, square)):
            return None
        a, b, c, ox, oy, square = (number.q for number in (a, b, c, ox, oy, square))
        if a:
            # x is c - b y: a square of y in one unknown.
            lead, half, rest = b * b + 1, b * (ox - c) - oy, (c - ox) ** 2 + oy ** 2 - square
        else:
            lead, half, rest = Fraction(1), -ox, ox ** 2 + (c - oy) ** 2 - square
        under = half * half - lead * rest
        if under < 0:
            return None
        if under == 0:
            solved = [Root(-half / lead)]
        else:
            root = root_of(under)
            solved = [(-root - half) / lead, (root - half) / lead]
        meets = [(Root(c) - y * b, y) for y in solved] if a else [(x, Root(c)) for x in solved]
        return meets[0] if len(meets) == 1 else meets[self.choose(at["N"], meets)]

    def line(self, at):
        along = way(at["P"], at["Q"])
        return None if along[0].is_nought() and along[1].is_nought() else line_by(at["P"], along)

    def along(self, at):
        return line_by(at["P"], (-at["L"][1], at["L"][0]))

    def upright(self, at):
        return line_by(at["P"], (at["L"][0], at["L"][1]))

    def circle(self, at):
        far = way(at["O"], at["P"])
        square = dot(far, far)
        return None if square.is_nought() else Circle((*at["O"], square))

    def told(self):
        return tuple(as_exacts(thing) for thing in self.made.values())


def holds(word, things):
    """Whether a saying of this word holds of things as flat tuples of these numbers, by point 12's words."""
    if word == "same":
        return all((one - other).is_nought() for one, other in zip(*things))
    if word == "row":
        p, q, r = things
        return cross_sum(way(p, q), way(p, r)).is_nought()
    if word in ("along", "upright", "alike"):
        p, q, r, s = things
        one, other = way(p, q), way(r, s)
        if word == "alike":
            return (dot(one, one) - dot(other, other)).is_nought()
        return (cross_sum if word == "along" else dot)(one, other).is_nought()
    if word in ("angle", "ring"):
        if word == "ring":
            p, q, r, s = things
            things = (p, r, q, p, s, q)
        a, b, c, d, e, f = things
        ways = way(b, a), way(b, c), way(e, d), way(e, f)
        left = cross_sum(*ways[:2]) * dot(*ways[2:])
        return (left - cross_sum(*ways[2:]) * dot(*ways[:2])).is_nought()
    p, thing = things
    if isinstance(thing, Circle):
        far = way(thing, p)
        return (dot(far, far) - thing[2]).is_nought()
    return (dot(thing, p) - thing[2]).is_nought()


class BoardAnew:
    """A Board's deeds, written a second time."""

    def __init__(self, sketch, hand, near, choices=()):
        self.sketch, self.near = sketch, near
        self.choices = {step[1]: step[4] for step in sketch if step[0] == "cross"} | dict(choices)
        self.places, self.past = {}, []
        self.draw(hand, False)

    def draw(self, hand, anew):
        def choose(name, meets):
            if anew and name in self.places:
                try:
                    first, second = (far_square(self.places[name], meet) for meet in meets)
                    order = (first - second).sign()
                    self.choices[name] = {-1: 0, 0: self.choices[name], 1: 1}[order]
                except Clash:
                    pass
            return self.choices[name]

        drawer = Drawer(self.sketch, hand, choose)
        self.hand, self.things = hand, drawer.told()
        for name in self.choices:
            if drawer.made[name] is not None:
                self.places[name] = drawer.made[name]

    def move(self, hand):
        ahead = dict(self.choices)
        self.past.append((self.hand, dict(self.choices), dict(self.places), self.things))
        self.draw(hand, self.near)
        return tuple(name for name in ahead if ahead[name] != self.choices[name])

    def back(self):
        self.hand, self.choices, self.places, self.things = self.past.pop()


def far_square(p, q):
    x, y = way(p, q)
    return x * x + y * y
