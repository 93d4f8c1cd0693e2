import copy
import unittest
from fractions import Fraction

from pointhouse.exacts import Exact
from pointhouse.plane import crossings, foot_of, line_through
from tests.helper import exact, place, root, surds


def line_of(a, b, c):
    return exact(a), exact(b), exact(c)


LINES = [
    line_of(a, b, c)
    for a, b in ((0, 1), (1, 0), (1, 1), (1, -1), (1, "3/4"), (1, "-4/3"), (1, 5), (1, "-1/7"))
    for c in (0, 1, 5, "-5/2", "25/4", -11)
]
CIRCLES = [
    (place(x, y), exact(square))
    for x, y in ((0, 0), (3, -4), ("1/2", "-2/3"), (-1, 5))
    for square in (1, 2, 25, "1/4", "50/9", 12)
]


def squared_distance_less_square(line, circle):
    """How the square of the way from the middle to the line stands to the circle's, times a a + b b."""
    a, b, c = [Fraction(number.top, number.bottom) for number in line]
    (x, y), square = circle
    x, y, square = [Fraction(number.top, number.bottom) for number in (x, y, square)]
    return (c - a * x - b * y) ** 2 - square * (a * a + b * b)


def is_ahead(p, q):
    """Whether p has the lesser y, or of one y the lesser x."""
    return p[0].is_less(q[0]) if p[1] == q[1] else p[1].is_less(q[1])


class Crossings(unittest.TestCase):
    def check(self, line, circle):
        ahead = copy.deepcopy((line, circle))
        told = crossings(line, circle)
        self.assertEqual(crossings(circle=circle, line=line), told)
        self.assertEqual((line, circle), ahead)
        self.assertIs(type(told), tuple)
        for point in told:
            self.assertIs(type(point), tuple)
            self.assertEqual([type(number) for number in point], [Exact, Exact])
            self.check_on(point, line, circle)
        if len(told) == 2:
            self.assertTrue(is_ahead(*told), (line, circle, told))
        return told

    def check_on(self, point, line, circle):
        (x, y), (a, b, c), (z, w), square = surds(point), surds(line), surds(circle[0]), surds(circle[1:])[0]
        self.assertTrue(a * x + b * y == c, (point, line))
        self.assertTrue((x - z) * (x - z) + (y - w) * (y - w) == square, (point, circle))

    def test_each_with_each(self):
        met = {0: 0, 1: 0, 2: 0}
        rooted = 0
        for line in LINES:
            for circle in CIRCLES:
                told = self.check(line, circle)
                much = squared_distance_less_square(line, circle)
                self.assertEqual(len(told), 0 if much > 0 else 1 if much == 0 else 2)
                met[len(told)] += 1
                rooted += any(number.sign for point in told for number in point)
        self.assertGreater(min(met.values()), 3)
        self.assertGreater(rooted, 100)
        self.assertGreater(met[2] - rooted, 20)

    def test_told_ones(self):
        whole, two = (place(0, 0), exact(25)), (place(0, 0), exact(2))
        cases = [
            (line_of(0, 1, 3), whole, (place(-4, 3), place(4, 3))),
            (line_of(1, 0, 3), whole, (place(3, -4), place(3, 4))),
            (line_of(1, 1, 7), whole, (place(4, 3), place(3, 4))),
            (line_of(1, -1, 1), whole, (place(-3, -4), place(4, 3))),
            (line_of(0, 1, -5), whole, (place(0, -5),)),
            (line_of(1, 0, 5), whole, (place(5, 0),)),
            (line_of(1, "4/3", "25/3"), whole, (place(3, 4),)),
            (line_of(0, 1, 6), whole, ()),
            (line_of(1, 0, -6), whole, ()),
            (line_of(1, 1, 8), whole, ()),
            (line_of(0, 1, 0), two, (place(root(2, sign=-1), 0), place(root(2), 0))),
            (line_of(1, 0, 0), two, (place(0, root(2, sign=-1)), place(0, root(2)))),
            (line_of(1, 1, 1), whole, (place(root(49, 4, top=1, bottom=2), root(49, 4, sign=-1, top=1, bottom=2)),
                                       place(root(49, 4, sign=-1, top=1, bottom=2), root(49, 4, top=1, bottom=2)))),
            (line_of(1, 1, 2), whole, (place(root(23, 2, top=1), root(23, 2, sign=-1, top=1)),
                                       place(root(23, 2, sign=-1, top=1), root(23, 2, top=1)))),
            (line_of(1, 2, 0), (place(1, 1), exact(5)), self.told_by_root()),
        ]
        for line, circle, wanted in cases:
            with self.subTest(line=line, circle=circle):
                self.assertEqual(self.check(line, circle), wanted)

    def told_by_root(self):
        # 5 y y + 2 y - 3 is 0 for y of -1 and of 3/5, and x is -2 y.
        return place(2, -1), place("-6/5", "3/5")

    def test_the_line_through_the_middle(self):
        for circle in CIRCLES:
            (x, y), _ = circle
            for p in (place(100, 1), (x, exact(77)), (exact(-77), y)):
                line = line_through(circle[0], p)
                told = self.check(line, circle)
                self.assertEqual(len(told), 2)
                self.assertEqual(foot_of(circle[0], line), circle[0])
                one, other = [surds(point) for point in told]
                middle = surds(circle[0])
                self.assertTrue(all(a + b == m + m for a, b, m in zip(one, other, middle)))

    def test_great_ones(self):
        great = 10 ** 119 + 1
        circle = (place(great, Exact(-1, great)), exact(great))
        for line in (line_of(1, 0, great), line_of(0, 1, Exact(-1, great))):
            told = self.check_by_exacts(line, circle)
            self.assertEqual(len(told), 2)
        self.assertEqual(crossings(line_of(0, 1, Exact(-1, great)), circle)[1][0], root(great, top=great))
        self.assertEqual(crossings(line_of(0, 1, great), circle), ())
        touched = (place(great, 2 * great), exact(great * great))
        self.assertEqual(crossings(line_of(0, 1, great), touched), (place(great, great),))

    def check_by_exacts(self, line, circle):
        told = crossings(line, circle)
        for x, y in told:
            right, up = x.minus(circle[0][0]), y.minus(circle[0][1])
            self.assertEqual(right.times(right).plus(up.times(up)), circle[1])
            self.assertEqual(line[0].times(x).plus(line[1].times(y)), line[2])
        self.assertTrue(is_ahead(*told))
        return told
