"""Points and lines: what is told is looked at by what must hold of it, reckoned another way."""

import copy
import unittest

from pointhouse import plane
from pointhouse.exacts import Exact
from tests.helper import Surd, exact, fields, flat, place, root, surds

GREAT = 10 ** 119 + 39

PLAIN_POINTS = [
    place(0, 0), place(1, 0), place(0, 1), place(-3, 5), place(-3, -7), place(4, 5), place("2/3", "-7/4"),
    place("-9/2", 0), place("2/3", 11), place(GREAT, Exact(-7, GREAT)), place(Exact(1, GREAT), -GREAT),
]
ROOTED_POINTS = [
    place(root(2), 0), place(1, root(8, sign=-1)), place(root(1, 2, top=1, bottom=3), root(9, 2, top=-2)), place(3, -1),
    place(root(2), root(2)), place(0, root(2, top=5)),
]
GROUPS = (PLAIN_POINTS, ROOTED_POINTS)


def line_of(a, b, c):
    return exact(a), exact(b), exact(c)


PLAIN_LINES = [
    line_of(0, 1, 0), line_of(0, 1, "-3/2"), line_of(1, 0, 0), line_of(1, 0, 4), line_of(1, 1, 0), line_of(1, "-2/3", 5),
    line_of(1, GREAT, Exact(-1, GREAT)), line_of(1, Exact(-1, GREAT), GREAT), line_of(1, "-2/3", -1),
]
ROOTED_LINES = [
    line_of(0, 1, root(2)), line_of(1, 0, root(8, top=-1)), line_of(1, root(2, sign=-1), 0), line_of(1, 3, -1),
    line_of(1, root(1, 2, top=1), root(2, 9, top=4)), line_of(0, 1, 2), line_of(1, 0, 0),
]
LINE_GROUPS = (PLAIN_LINES, ROOTED_LINES)


def pairs(groups, others):
    return [(one, other) for group, more in zip(groups, others) for one in group for other in more]


def is_on(point, line):
    (x, y), (a, b, c) = surds(point), surds(line)
    return a * x + b * y == c


def way(p, q):
    (x, y), (z, w) = surds(p), surds(q)
    return z - x, w - y


def cross(one, other):
    return one[0] * other[1] - one[1] * other[0]


def dot(one, other):
    return one[0] * other[0] + one[1] * other[1]


NOUGHT = Surd(0)


class Plane(unittest.TestCase):
    def ask(self, name, one, other, *more):
        """What a function tells: asked again, by names, and with what was handed in looked at."""
        function = getattr(plane, name)
        names = function.__code__.co_varnames[: 2 + len(more)]
        ahead = copy.deepcopy((one, other))
        told = function(one, other, *more)
        self.assertEqual(function(one, other, *more), told)
        self.assertEqual(function(**dict(reversed(list(zip(names, (one, other, *more)))))), told)
        self.assertEqual((one, other), ahead)
        return told

    def check_kind(self, told, many):
        self.assertIs(type(told), tuple)
        self.assertEqual(len(told), many)
        for number in told:
            self.check_number(number)

    def check_number(self, number):
        self.assertIs(type(number), Exact)
        again = Exact(number.top, number.bottom, sign=number.sign, over=number.over, under=number.under)
        self.assertEqual(fields(number), fields(again))

    def check_line(self, line):
        self.check_kind(line, 3)
        first = line[1] if fields(line[0]) == (0, 1, 0, 0, 1) else line[0]
        self.assertEqual(fields(first), (1, 1, 0, 0, 1))

    def test_line_through(self):
        for p, q in pairs(GROUPS, GROUPS):
            if p != q:
                line = self.ask("line_through", p, q)
                self.check_line(line)
                self.assertTrue(is_on(p, line) and is_on(q, line), (p, q, line))
                self.assertEqual(plane.line_through(q, p), line)

    def test_a_line_told_again_through_its_own_points(self):
        for line, p in pairs(LINE_GROUPS, GROUPS):
            foot = plane.foot_of(p, line)
            far = plane.lines_meet(line, plane.line_upright(plane.turned(foot, p, 1), line))
            if far != foot:
                self.assertEqual(plane.line_through(foot, far), line)
                self.assertEqual(plane.line_through(far, foot), line)
            self.assertEqual(plane.line_along(foot, line), line)

    def test_line_along(self):
        for p, line in pairs(GROUPS, LINE_GROUPS):
            told = self.ask("line_along", p, line)
            self.check_line(told)
            self.assertTrue(is_on(p, told), (p, line))
            self.assertEqual(told[:2], line[:2])
            self.assertEqual(told == line, is_on(p, line))

    def test_line_upright(self):
        for p, line in pairs(GROUPS, LINE_GROUPS):
            told = self.ask("line_upright", p, line)
            self.check_line(told)
            self.assertTrue(is_on(p, told), (p, line))
            self.assertEqual(dot(surds(told[:2]), surds(line[:2])), NOUGHT)

    def test_lines_meet(self):
        met = {True: 0, False: 0}
        for one, other in pairs(LINE_GROUPS, LINE_GROUPS):
            told = self.ask("lines_meet", one, other)
            along = cross(surds(one[:2]), surds(other[:2])) == NOUGHT
            met[along] += 1
            if along:
                self.assertIsNone(told)
            else:
                self.check_kind(told, 2)
                self.assertTrue(is_on(told, one) and is_on(told, other), (one, other, told))
            self.assertEqual(plane.lines_meet(other, one), told)
        self.assertGreater(min(met.values()), 15)

    def test_lines_along_one_another_meet_nowhere(self):
        for line, p in pairs(LINE_GROUPS, GROUPS):
            self.assertIsNone(plane.lines_meet(line, line))
            self.assertIsNone(plane.lines_meet(line, plane.line_along(p, line)))
            self.assertIsNone(plane.lines_meet(plane.line_upright(p, line), plane.line_upright(place(2, 2), line)))

    def test_middle_of(self):
        for p, q in pairs(GROUPS, GROUPS):
            told = self.ask("middle_of", p, q)
            self.check_kind(told, 2)
            self.assertEqual(way(p, told), way(told, q))
            self.assertEqual(plane.middle_of(q, p), told)
            self.assertEqual(told == p, p == q)

    def test_foot_of(self):
        for p, line in pairs(GROUPS, LINE_GROUPS):
            told = self.ask("foot_of", p, line)
            self.check_kind(told, 2)
            self.assertTrue(is_on(told, line))
            self.assertEqual(cross(way(p, told), surds(line[:2])), NOUGHT)
            self.assertEqual(told == p, is_on(p, line))
            self.assertEqual(plane.foot_of(told, line), told)

    def test_mirror_of(self):
        for p, line in pairs(GROUPS, LINE_GROUPS):
            told = self.ask("mirror_of", p, line)
            self.check_kind(told, 2)
            self.assertEqual(plane.middle_of(p, told), plane.foot_of(p, line))
            self.assertEqual(plane.mirror_of(told, line), p)
            self.assertEqual(told == p, is_on(p, line))

    def test_turned(self):
        for p, about in pairs(GROUPS, GROUPS):
            right, up = way(about, p)
            for many, wanted in ((1, (NOUGHT - up, right)), (2, (NOUGHT - right, NOUGHT - up)), (3, (up, NOUGHT - right))):
                told = self.ask("turned", p, about, many)
                self.check_kind(told, 2)
                self.assertEqual(way(about, told), wanted, (p, about, many))

    def test_turns_that_lead_back(self):
        for p, about in pairs(GROUPS, GROUPS):
            place_now = p
            for many in (1, 2, 3, 4):
                place_now = plane.turned(place_now, about, 1)
                if many < 4:
                    self.assertEqual(place_now, plane.turned(p, about, many))
            self.assertEqual(place_now, p)
            self.assertEqual(plane.turned(plane.turned(p, about, 3), about, 1), p)
            self.assertEqual(plane.turned(plane.turned(p, about, 2), about, 2), p)

    def test_a_point_turned_about_itself(self):
        for p in PLAIN_POINTS + ROOTED_POINTS:
            self.assertEqual([plane.turned(p, p, many) for many in (1, 2, 3)], [p, p, p])


class Outright(unittest.TestCase):
    """What is told of some, written out."""

    def test_lines(self):
        cases = [
            (plane.line_through(place(0, 0), place(1, 0)), line_of(0, 1, 0)),
            (plane.line_through(place(-5, 3), place(7, 3)), line_of(0, 1, 3)),
            (plane.line_through(place(4, 9), place(4, -2)), line_of(1, 0, 4)),
            (plane.line_through(place(1, 2), place(3, 5)), line_of(1, "-2/3", "-1/3")),
            (plane.line_through(place(3, 5), place(1, 2)), line_of(1, "-2/3", "-1/3")),
            (plane.line_through(place(0, 0), place(root(2), 1)), line_of(1, root(2, sign=-1), 0)),
            (plane.line_through(place(root(2), root(8)), place(0, root(8))), line_of(0, 1, root(8))),
            (plane.line_along(place(2, 3), line_of(1, 4, 100)), line_of(1, 4, 14)),
            (plane.line_along(place(2, root(3)), line_of(0, 1, 1)), line_of(0, 1, root(3))),
            (plane.line_upright(place(2, 3), line_of(0, 1, 7)), line_of(1, 0, 2)),
            (plane.line_upright(place(2, 3), line_of(1, 0, 7)), line_of(0, 1, 3)),
            (plane.line_upright(place(2, 3), line_of(1, 4, 7)), line_of(1, "-1/4", "5/4")),
            (plane.line_upright(place(1, 0), line_of(1, root(2), 7)), line_of(1, root(1, 2, sign=-1), 1)),
        ]
        for told, wanted in cases:
            self.assertEqual(told, wanted)
            self.assertEqual([str(number) for number in told], [str(number) for number in wanted])

    def test_points(self):
        cases = [
            (plane.lines_meet(line_of(1, 1, 3), line_of(1, -1, 1)), place(2, 1)),
            (plane.lines_meet(line_of(0, 1, 3), line_of(1, 0, -2)), place(-2, 3)),
            (plane.lines_meet(line_of(1, root(2), 2), line_of(1, 0, 0)), place(0, root(2))),
            (plane.lines_meet(line_of(0, 1, root(2)), line_of(1, root(2), 0)), place(-2, root(2))),
            (plane.middle_of(place(1, "1/2"), place(2, -1)), place("3/2", "-1/4")),
            (plane.middle_of(place(root(2), 0), place(root(8), 1)), place(root(9, 2), "1/2")),
            (plane.foot_of(place(5, 7), line_of(0, 1, 2)), place(5, 2)),
            (plane.foot_of(place(5, 7), line_of(1, 0, 2)), place(2, 7)),
            (plane.foot_of(place(0, 0), line_of(1, 2, 5)), place(1, 2)),
            (plane.foot_of(place(0, 0), line_of(1, root(2), 3)), place(1, root(2))),
            (plane.mirror_of(place(0, 0), line_of(1, 2, 5)), place(2, 4)),
            (plane.mirror_of(place(5, 7), line_of(0, 1, 2)), place(5, -3)),
            (plane.mirror_of(place(root(2), 7), line_of(1, 0, 2)), place(root(2, top=4, sign=-1), 7)),
            (plane.turned(place(3, 1), place(1, 1), 1), place(1, 3)),
            (plane.turned(place(3, 1), place(1, 1), 2), place(-1, 1)),
            (plane.turned(place(3, 1), place(1, 1), 3), place(1, -1)),
            (plane.turned(place(root(2), 0), place(0, 0), 1), place(0, root(2))),
        ]
        for told, wanted in cases:
            self.assertEqual(told, wanted)
            self.assertEqual([str(number) for number in told], [str(number) for number in wanted])

    def test_a_root_may_go(self):
        told = plane.middle_of(place(root(2), root(2, top=1)), place(root(2, sign=-1), root(8, sign=-1, top=3)))
        self.assertEqual([str(number) for number in told], ["0", "2-r1/2"])

    def test_great_ones_with_roots(self):
        p = place(root(GREAT, 7, top=-GREAT), root(7, GREAT, top=1, bottom=GREAT))
        q = place(GREAT, root(7 * GREAT, sign=-1, top=3))
        line = plane.line_through(p, q)
        upright = plane.line_upright(q, line)
        self.assertEqual(line[0], Exact(1))
        self.assertEqual(plane.lines_meet(line, upright), q)
        self.assertEqual(plane.foot_of(p, upright), q)
        self.assertEqual(plane.foot_of(q, line), q)
        self.assertEqual(plane.mirror_of(p, line), p)
        self.assertEqual(plane.mirror_of(p, upright), plane.turned(p, q, 2))
        self.assertEqual(plane.middle_of(p, plane.turned(p, q, 2)), q)
        self.assertEqual(plane.line_along(p, upright)[:2], upright[:2])


class Flat(unittest.TestCase):
    def test_what_is_handed_in_stands_in_order(self):
        self.assertEqual([str(number) for number in flat((place(1, 2), (place(3, 4), exact(5))))], list("12345"))
