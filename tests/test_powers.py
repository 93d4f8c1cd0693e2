"""What sums of powers share is taken out of them, all of it and no more, whatever their numbers are."""

import random
import unittest
from fractions import Fraction
from math import gcd

from pointhouse.exacts import Exact
from pointhouse.powers import PowerReckoner, sum_of_number, without_factor
from tests.ways_anew import parted, shared, times, trimmed


def without_anew(sums):
    """The same, by the greatest sum of fractions that goes into all; the numbers of all, lightened, in one row."""
    rows = [[Fraction(number, bottom) for number in numbers] for numbers, bottom in sums]
    factor = []
    for row in rows:
        factor = shared(row, factor) if row or factor else []
    rows = [parted(row, factor)[0] for row in rows]
    return [[number / next(one for row in rows for one in row if one) for number in row] for row in rows]


class WithoutFactor(unittest.TestCase):
    def check(self, sums):
        found = without_factor(sums)
        self.assertEqual({bottom for _, bottom in found}, {1})
        numbers = [number for numbers, _ in found for number in numbers]
        self.assertEqual({type(number) for number in numbers}, {int})
        self.assertEqual(gcd(*numbers), 1)
        lead = next(number for number in numbers if number)
        self.assertEqual([[Fraction(number, lead) for number in row] for row, _ in found], without_anew(sums), sums)
        return found

    def test_known(self):
        for sums, wanted in (
            ((((2, 4), 1), ((), 1), ((0, 6, 12), 1)), ((1,), (), (0, 3))),
            ((((1,), 2), ((1,), 3), ((5,), 6)), ((3,), (2,), (5,))),
            ((((-1, 0, 1), 1), ((1, 1), 1), ((2, 3, 1), 7)), ((-7, 7), (7,), (2, 1))),
            ((((1, 0, 1), 1), ((-1, 0, 1), 1), ((0, 2), 1)), ((1, 0, 1), (-1, 0, 1), (0, 2))),
        ):
            self.assertEqual(self.check(sums), tuple((numbers, 1) for numbers in wanted))

    def test_sums_that_share_numbers_alone(self):
        # At many whole numbers these come to what has a factor, though they have none.
        for sums in (((0, 1, 1), (2,)), ((0, 0, -1), (2,)), ((0, -1, 1), (2, 2, 1)), ((2, 4, -2, 2), (-2, 2)),
                     ((0, -1, 0, 0, 0, 1), (30,)), ((5040,), (0, 720, -1764, 1624, -735, 175, -21, 1))):
            self.check(tuple((numbers, 1) for numbers in (*sums, ())))
            for factor in ((1, 1), (-5, 0, 2), (0, 3), (1, 1, 1, 1)):
                self.check(tuple((tuple(int(number) for number in times(numbers, factor)), 1) for numbers in (*sums, ())))

    def test_factors_of_greater_numbers(self):
        # Greater numbers stand in the factor than in what it goes into.
        factor = (1, 2, 3, 4, 5, 6, 7, 8, 9, 10, 9, 8, 7, 6, 5, 4, 3, 2, 1)
        first = times(factor, times((1, -2, 1), (1, 0, -1)))
        self.assertLess(max(map(abs, first)), max(factor))
        for other in ((1, 1), (7, 5, 3), ()):
            sums = [tuple(int(number) for number in one) for one in (first, times(factor, other), times(factor, (0, 1)))]
            self.check(tuple((numbers, 1) for numbers in sums))

    def test_by_chance(self):
        for seed in range(4000):
            chance = random.Random(seed)
            span = chance.choice((1, 1, 2, 5, 30, 10 ** 6, 10 ** 40))

            def any_sum(most):
                return trimmed([chance.randint(-span, span) for _ in range(chance.randint(0, most))])

            factor = any_sum(5)
            sums = tuple((tuple(int(number) for number in times(any_sum(5), factor)), chance.randint(1, 9)) for _ in range(3))
            if any(numbers for numbers, _ in sums):
                self.check(sums)

    def test_multiples_of_great_numbers(self):
        for prime in (2 ** 61 - 1, 2 ** 89 - 1, 2 ** 127 - 1, 2 ** 521 - 1, 10 ** 9 + 7):
            for sums in (((prime, 1), (0, 1), ()), ((1, prime), (1,), (2,)), ((1 + prime, 1), (1, 1), ()),
                         ((1, 1, prime), (1, 1), (2, 2 + prime))):
                found = self.check(tuple((numbers, 1) for numbers in sums))
                self.assertEqual([len(numbers) for numbers, _ in found], [len(numbers) for numbers in sums])


class Reckoner(unittest.TestCase):
    def test_by_chance(self):
        by = PowerReckoner()
        for seed in range(500):
            chance = random.Random(seed)
            one, other = [(tuple(trimmed([chance.randint(-3, 3) for _ in range(chance.randint(0, 4))])), chance.randint(1, 4))
                          for _ in range(2)]
            for told, wanted in (
                (by.added(one, other), lambda t: self.worth(one, t) + self.worth(other, t)),
                (by.lessened(one, other), lambda t: self.worth(one, t) - self.worth(other, t)),
                (by.multiplied(one, other), lambda t: self.worth(one, t) * self.worth(other, t)),
                (by.whole(seed % 5), lambda t: seed % 5),
            ):
                self.assertTrue(told[0] == () or told[0][-1] != 0)
                self.assertEqual(by.is_nought(told), all(wanted(t) == 0 for t in range(9)))
                for t in range(9):
                    self.assertEqual(self.worth(told, t), wanted(t))

    def test_numbers(self):
        for number, wanted in (((0,), ((), 1)), ((-6, 4), ((-3,), 2)), ((7,), ((7,), 1))):
            self.assertEqual(sum_of_number(Exact(*number)), wanted)

    def worth(self, one, t):
        return sum((Fraction(number, one[1]) * t ** at for at, number in enumerate(one[0])), Fraction(0))
