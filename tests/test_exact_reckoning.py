import unittest
from fractions import Fraction

from pointhouse.errors import NoBottom, PointError, TwoRoots
from pointhouse.exacts import Exact
from tests.helper import fields, fields_of, parts_of, samples

WAYS = ("plus", "minus", "times", "by")


def reckoned(way, one, other):
    """The fields of what the way tells, None where the roots don't go together."""
    (a, b, root), (c, d, more) = parts_of(one), parts_of(other)
    if root != 1 and more != 1 and root != more:
        return None
    rest = max(root, more)
    if way == "plus":
        return fields_of(a + c, b + d, rest)
    if way == "minus":
        return fields_of(a - c, b - d, rest)
    if way == "by":
        norm = c * c - d * d * rest
        c, d = c / norm, -d / norm
    return fields_of(a * c + b * d * rest, a * d + b * c, rest)


def is_nought(number):
    return fields(number) == (0, 1, 0, 0, 1)


class Reckoning(unittest.TestCase):
    def test_each_with_each(self):
        numbers = samples()
        met = {True: 0, False: 0}
        for one in numbers:
            for other in numbers:
                for way in WAYS:
                    if way == "by" and is_nought(other):
                        continue
                    wanted = reckoned(way, one, other)
                    met[wanted is None] += 1
                    if wanted is None:
                        self.check_refused(way, one, other)
                    else:
                        self.check_told(way, one, other, wanted)
        self.assertGreater(min(met.values()), 1000)

    def check_told(self, way, one, other, wanted):
        ahead = fields(one), fields(other)
        told = getattr(one, way)(other)
        self.assertIs(type(told), Exact)
        self.assertEqual(fields(told), wanted, (way, one, other))
        self.assertEqual((fields(one), fields(other)), ahead)

    def check_refused(self, way, one, other):
        ahead = fields(one), fields(other)
        with self.assertRaises(TwoRoots) as caught:
            getattr(one, way)(other)
        self.assertEqual(caught.exception.one, (one.over, one.under), (way, one, other))
        self.assertEqual(caught.exception.other, (other.over, other.under), (way, one, other))
        self.assertEqual((fields(one), fields(other)), ahead)

    def test_by_name(self):
        one, other = Exact(6), Exact(4)
        self.assertEqual(one.plus(other=other), Exact(10))
        self.assertEqual(one.minus(other=other), Exact(2))
        self.assertEqual(one.times(other=other), Exact(24))
        self.assertEqual(one.by(other=other), Exact(3, 2))
        self.assertIs(one.is_less(other=other), False)

    def test_told_ones(self):
        two, eight = Exact(0, sign=1, over=2), Exact(0, sign=1, over=8)
        cases = [
            (Exact(1, 2).plus(Exact(1, 3)), Exact(5, 6)), (Exact(1, 2).minus(Exact(1, 2)), Exact(0)),
            (Exact(1, 2).times(Exact(-4)), Exact(-2)), (Exact(1).by(Exact(-3)), Exact(-1, 3)),
            (Exact(0).by(Exact(-3, 2)), Exact(0)), (two.plus(eight), Exact(0, sign=1, over=18)),
            (two.minus(eight), Exact(0, sign=-1, over=2)), (eight.minus(two), two), (two.times(eight), Exact(4)),
            (eight.by(two), Exact(2)), (two.by(eight), Exact(1, 2)), (two.times(two), Exact(2)),
            (two.minus(two), Exact(0)), (two.by(two), Exact(1)), (two.plus(two), eight),
            (Exact(1).by(two), Exact(0, sign=1, over=1, under=2)), (Exact(-3).times(two), Exact(0, sign=-1, over=18)),
            (Exact(1, sign=1, over=2).times(Exact(1, sign=-1, over=2)), Exact(-1)),
            (Exact(1, sign=1, over=2).plus(Exact(1, sign=-1, over=2)), Exact(2)),
            (Exact(1).by(Exact(1, sign=1, over=2)), Exact(-1, sign=1, over=2)),
            (Exact(0).times(two), Exact(0)), (Exact(0).by(two), Exact(0)),
        ]
        for at, (told, wanted) in enumerate(cases):
            with self.subTest(at=at):
                self.assertEqual(told, wanted)

    def test_what_is_put_to_is_taken_off_again(self):
        for one in samples():
            for other in samples():
                if reckoned("plus", one, other) is not None:
                    self.assertEqual(one.plus(other).minus(other), one)
                    self.assertEqual(one.minus(other).plus(other), one)
                    if not is_nought(other):
                        self.assertEqual(one.times(other).by(other), one)
                        self.assertEqual(one.by(other).times(other), one)

    def test_either_side(self):
        for one in samples():
            for other in samples():
                if reckoned("plus", one, other) is not None:
                    self.assertEqual(one.plus(other), other.plus(one))
                    self.assertEqual(one.times(other), other.times(one))
                    self.assertEqual(one.minus(other), Exact(0).minus(other.minus(one)))

    def test_great_ones(self):
        great = 10 ** 119 + 39
        one = Exact(great, 7, sign=-1, over=great, under=3)
        other = Exact(1, great, sign=1, over=3, under=great)
        for way in WAYS:
            told = getattr(one, way)(other)
            # The root of other is 3 / great times that of great / 3.
            self.assertEqual(fields(told), self.great_fields(way, great))
        self.assertEqual(one.plus(other).minus(other), one)
        self.assertEqual(one.times(other).by(other), one)

    def great_fields(self, way, great):
        root, a, b = Fraction(great, 3), Fraction(great, 7), Fraction(-1)
        c, d = Fraction(1, great), Fraction(3, great)
        if way == "by":
            norm = c * c - d * d * root
            c, d = c / norm, -d / norm
        if way in ("times", "by"):
            quotient, many = a * c + b * d * root, a * d + b * c
        else:
            sign = 1 if way == "plus" else -1
            quotient, many = a + sign * c, b + sign * d
        square = many * many * root
        return (quotient.numerator, quotient.denominator, (many > 0) - (many < 0), square.numerator, square.denominator)

    def test_what_is_told_is_a_number_of_its_own(self):
        for one in (Exact(2), Exact(0, sign=1, over=2)):
            for told in (one.plus(Exact(0)), one.minus(Exact(0)), one.times(Exact(1)), one.by(Exact(1))):
                self.assertEqual(told, one)
                self.assertIsNot(told, one)


class NoBottoms(unittest.TestCase):
    def test_by_nought(self):
        noughts = (Exact(0), Exact(0, 5), Exact(2, sign=-1, over=4), Exact(0, sign=1, over=2).minus(Exact(0, sign=1, over=2)))
        for one in samples():
            for other in noughts:
                with self.assertRaises(NoBottom) as caught:
                    one.by(other)
                self.assertNotIsInstance(caught.exception, PointError)
                self.assertIsInstance(caught.exception, ZeroDivisionError)

    def test_by_what_is_no_nought(self):
        self.assertEqual(Exact(1).by(Exact(0, sign=-1, over=4)), Exact(-1, 2))
        self.assertEqual(Exact(1).by(Exact(0, sign=-1, over=3)), Exact(0, sign=-1, over=1, under=3))


class RootsApart(unittest.TestCase):
    def refused(self, act, one, other):
        with self.assertRaises(TwoRoots) as caught:
            act()
        self.assertEqual((caught.exception.one, caught.exception.other), (one, other))
        self.assertIs(type(caught.exception.one), tuple)
        self.assertIs(type(caught.exception.other), tuple)

    def test_both_fields(self):
        one, other = Exact(1, 2, sign=-1, over=10, under=8), Exact(0, sign=1, over=3)
        for way in WAYS + ("is_less",):
            with self.subTest(way):
                self.refused(lambda: getattr(one, way)(other), (5, 4), (3, 1))
                self.refused(lambda: getattr(other, way)(one), (3, 1), (5, 4))

    def test_whatever_would_come_of_it(self):
        # The product would be a single root, and the greater of both is plain to see.
        one, other = Exact(0, sign=1, over=2), Exact(1000, sign=-1, over=6)
        for way in WAYS + ("is_less",):
            self.refused(lambda: getattr(one, way)(Exact(0, sign=-1, over=3)), (2, 1), (3, 1))
            self.refused(lambda: getattr(one, way)(other), (2, 1), (6, 1))

    def test_root_of_other_as_it_is_kept(self):
        self.refused(lambda: Exact(1, sign=1, over=3, under=4).by(Exact(2, 3, sign=-1, over=10, under=6)), (3, 4), (5, 3))

    def test_not_where_one_has_no_root(self):
        root = Exact(1, sign=1, over=3)
        for plain in (Exact(0), Exact(2, 3), Exact(1, sign=-1, over=4), Exact(1, sign=0, over=2)):
            for way in WAYS:
                if not is_nought(plain):
                    getattr(root, way)(plain)
                getattr(plain, way)(root)
            root.is_less(plain)
            plain.is_less(root)
