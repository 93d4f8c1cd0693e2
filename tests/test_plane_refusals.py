import copy
import itertools
import unittest

from pointhouse import errors, plane
from tests.helper import exact, flat, place, root, squarefree

# Alike but for their roots: those of 2 and 8 go together, those of 3 and 5/4 don't go with any other.
NUMBERS = (exact(1), root(2, top=1), root(8), root(3, sign=-1), root(5, 4, top=2))

POINTS = [place(x, y) for x, y in itertools.product(NUMBERS, repeat=2)]
LINES = [(exact(1), b, c) for b, c in itertools.product(NUMBERS, repeat=2)]
LINES += [(exact(0), exact(1), c) for c in NUMBERS]
CIRCLES = [(point, square) for point in POINTS[::2] for square in (exact(4), root(2), root(8), root(3), root(3, top=1))]

OF_TWO_POINTS = ("line_through", "middle_of")
OF_A_POINT_AND_A_LINE = ("line_along", "line_upright", "foot_of", "mirror_of")


def rest_of(number):
    """The whole number by whose root the number's own is told, 1 of none."""
    return squarefree(number.over * number.under)[1] if number.sign else 1


def root_in(number):
    return number.over, number.under


def wanted_roots(things):
    """The fields of the refusal that is due, or None."""
    rooted = [number for number in flat(things) if number.sign]
    for other in rooted[1:]:
        if rest_of(other) != rest_of(rooted[0]):
            return root_in(rooted[0]), root_in(other)
    return None


class TwoRoots(unittest.TestCase):
    def setUp(self):
        self.met = {True: 0, False: 0}

    def tearDown(self):
        self.assertGreater(min(self.met.values()), 3)

    def check(self, name, wanted, *things):
        function = getattr(plane, name)
        names = function.__code__.co_varnames[: len(things)]
        by_name = dict(zip(names, things))
        ahead = copy.deepcopy(things)
        self.met[wanted is None] += 1
        for asked in (lambda: function(*things), lambda: function(**by_name)):
            try:
                asked()
                told = None
            except errors.TwoRoots as refused:
                self.assertIs(type(refused), errors.TwoRoots)
                told = refused.one, refused.other
                for pair in told:
                    self.assertEqual([type(part) for part in (pair, *pair)], [tuple, int, int])
            except errors.NoLine as refused:
                self.assertIs(type(refused), errors.NoLine)
                self.assertEqual((name, things[0]), ("line_through", things[1]))
                told = None
            self.assertEqual(told, wanted, (name, things))
        self.assertEqual(things, ahead)

    def test_of_two_points(self):
        for p, q in itertools.product(POINTS, repeat=2):
            for name in OF_TWO_POINTS:
                self.check(name, wanted_roots((p, q)), p, q)
            self.check("turned", wanted_roots((p, q)), p, q, 1)

    def test_turned_however_often(self):
        for p, q in itertools.product(POINTS[::3], POINTS[::2]):
            for many in (1, 2, 3):
                self.check("turned", wanted_roots((p, q)), p, q, many)

    def test_of_a_point_and_a_line(self):
        for p, line in itertools.product(POINTS, LINES):
            for name in OF_A_POINT_AND_A_LINE:
                self.check(name, wanted_roots((p, line)), p, line)

    def test_of_two_lines(self):
        for one, other in itertools.product(LINES, repeat=2):
            self.check("lines_meet", wanted_roots((one, other)), one, other)

    def test_crossings(self):
        plain = [(exact(1), exact(-1), exact(2)), (exact(0), exact(1), exact(0))]
        for line, circle in itertools.product(LINES + plain, CIRCLES):
            rooted = [number for number in flat((line, circle)) if number.sign]
            wanted = (root_in(rooted[0]), root_in((rooted + rooted)[1])) if rooted else None
            self.check("crossings", wanted, line, circle)


class Outright(unittest.TestCase):
    def refused(self, function, *things):
        with self.assertRaises(errors.TwoRoots) as caught:
            function(*things)
        return caught.exception.one, caught.exception.other

    def test_each_place(self):
        one, two, three = exact(1), root(2), root(3, 4)
        p, q = place(1, 2), place(5, 1)
        line, level = (one, one, one), (exact(0), one, one)
        cases = [
            (plane.line_through, (two, three), q), (plane.line_through, (two, one), (three, one)),
            (plane.line_through, (one, two), (one, three)), (plane.line_through, p, (two, three)),
            (plane.middle_of, (two, three), q), (plane.middle_of, (one, two), (three, one)),
            (plane.middle_of, (two, one), (one, three)), (plane.middle_of, p, (two, three)),
            (plane.line_along, (two, three), line), (plane.line_along, (one, two), (one, one, three)),
            (plane.line_along, (two, one), (one, three, one)), (plane.line_along, p, (one, two, three)),
            (plane.line_upright, (two, three), line), (plane.line_upright, (two, one), (exact(0), one, three)),
            (plane.line_upright, p, (one, two, three)), (plane.lines_meet, (one, two, three), line),
            (plane.lines_meet, (exact(0), one, two), (exact(0), one, three)),
            (plane.lines_meet, line, (one, two, three)), (plane.lines_meet, (one, two, one), (one, three, one)),
            (plane.foot_of, (two, three), line), (plane.foot_of, (one, two), (exact(0), one, three)),
            (plane.foot_of, p, (one, two, three)), (plane.foot_of, (two, one), (one, one, three)),
            (plane.mirror_of, (two, three), level), (plane.mirror_of, (two, one), (exact(0), one, three)),
            (plane.mirror_of, p, (one, two, three)), (plane.turned, (two, three), p, 2),
            (plane.turned, p, (two, three), 2), (plane.turned, (two, one), (one, three), 2),
            (plane.crossings, (one, two, three), (p, one)), (plane.crossings, (one, two, one), ((one, three), one)),
            (plane.crossings, (one, one, two), (p, three)), (plane.crossings, line, ((two, three), one)),
            (plane.crossings, level, ((one, two), three)),
        ]
        for function, *things in cases:
            with self.subTest(function=function, things=things):
                self.assertEqual(self.refused(function, *things), ((2, 1), (3, 4)))

    def test_the_first_of_the_others_that_does_not_go_with_the_first(self):
        two, eight, three, five = root(2), root(8), root(3), root(5)
        self.assertEqual(self.refused(plane.middle_of, (two, eight), (five, three)), ((2, 1), (5, 1)))
        self.assertEqual(self.refused(plane.middle_of, (exact(0), eight), (two, three)), ((8, 1), (3, 1)))
        self.assertEqual(self.refused(plane.lines_meet, (exact(1), three, three), (exact(1), two, five)), ((3, 1), (2, 1)))

    def test_ahead_of_no_line(self):
        p = (root(2), root(3))
        self.assertEqual(self.refused(plane.line_through, p, p), ((2, 1), (3, 1)))

    def test_what_has_no_such_roots_is_not_refused(self):
        two, eight = root(2), root(8, sign=-1)
        self.assertEqual(plane.lines_meet((exact(1), two, eight), (exact(1), two, exact(0))), None)
        self.assertEqual(plane.middle_of((two, two), (eight, eight)), place(root(1, 2, sign=-1), root(1, 2, sign=-1)))

    def test_crossings_with_roots(self):
        one, two, eight, three = exact(1), root(2), root(8), root(3)
        circle = (place(0, 0), one)
        cases = [
            ((one, two, one), circle, ((2, 1), (2, 1))), ((one, one, two), circle, ((2, 1), (2, 1))),
            ((exact(0), one, three), circle, ((3, 1), (3, 1))), ((one, one, one), (place(two, 0), one), ((2, 1), (2, 1))),
            ((one, one, one), (place(0, two), one), ((2, 1), (2, 1))), ((one, one, one), (place(0, 0), two), ((2, 1), (2, 1))),
            ((one, two, eight), (place(three, 0), three), ((2, 1), (8, 1))),
            ((one, eight, one), (place(two, 0), three), ((8, 1), (2, 1))),
            ((one, one, three), (place(0, two), eight), ((3, 1), (2, 1))),
            ((one, one, one), (place(two, eight), three), ((2, 1), (8, 1))),
            ((one, two, two), circle, ((2, 1), (2, 1))),
            ((exact(0), one, exact(100)), (place(0, 0), three), ((3, 1), (3, 1))),
        ]
        for line, circle, wanted in cases:
            with self.subTest(line=line, circle=circle):
                self.assertEqual(self.refused(plane.crossings, line, circle), wanted)

    def test_no_line(self):
        for p in (place(0, 0), place("1/2", -3), place(root(2), root(8, top=1)), place(10 ** 119, 0)):
            again = copy.deepcopy(p)
            for asked in (lambda: plane.line_through(p, again), lambda: plane.line_through(q=again, p=p)):
                with self.assertRaises(errors.NoLine) as caught:
                    asked()
                self.assertIs(type(caught.exception), errors.NoLine)
                self.assertIsInstance(caught.exception, errors.PointError)
                self.assertIsInstance(caught.exception, ValueError)
                self.assertNotIsInstance(caught.exception, (errors.TwoRoots, errors.NoExact, KeyError, ZeroDivisionError))
            self.assertEqual(p, again)

    def test_two_roots_stands_where_it_is_told(self):
        with self.assertRaises(errors.PointError) as caught:
            plane.middle_of(place(root(2), 0), place(root(3), 0))
        self.assertIs(type(caught.exception), errors.TwoRoots)
        self.assertNotIsInstance(caught.exception, (errors.NoLine, errors.NoExact, KeyError, ZeroDivisionError))
