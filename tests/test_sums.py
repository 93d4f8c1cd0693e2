import copy
import itertools
import random
import unittest

from pointhouse.sums import added, is_sum, lessened, times, worth_at
from tests.helper import NO_WHOLES

GREAT = 10 ** 59 + 7


def as_sum(found):
    return tuple(sorted((powers, many) for powers, many in found.items() if many))


def reckoned(one, other, sign):
    found = dict(one)
    for powers, many in other:
        found[powers] = found.get(powers, 0) + sign * many
    return as_sum(found)


def multiplied(one, other):
    found = {}
    for (powers, many), (more, factor) in itertools.product(one, other):
        key = tuple(a + b for a, b in zip(powers, more))
        found[key] = found.get(key, 0) + many * factor
    return as_sum(found)


def worth(one, numbers):
    total = 0
    for powers, many in one:
        for number, power in zip(numbers, powers):
            for _ in range(power):
                many *= number
        total += many
    return total


def any_sum(chance, unknowns, most=6):
    found = {}
    for _ in range(chance.randint(0, most)):
        powers = tuple(chance.choice((0, 0, 1, 1, 2, 3)) for _ in range(unknowns))
        found[powers] = chance.choice((1, -1, 1, 2, -3, 10 ** 20))
    return as_sum(found)


def samples():
    for seed in range(400):
        chance = random.Random(seed)
        unknowns = seed % 5
        yield chance, unknowns, any_sum(chance, unknowns), any_sum(chance, unknowns)


class Asked(unittest.TestCase):
    def told(self, function, wanted, **things):
        ahead = copy.deepcopy(things)
        self.assertEqual(function(*things.values()), wanted, things)
        self.assertEqual(function(**things), wanted)
        self.assertEqual(things, ahead)


class Reckoning(Asked):
    def test_the_same_reckoned_another_way(self):
        for chance, unknowns, one, other in samples():
            self.told(added, reckoned(one, other, 1), one=one, other=other)
            self.told(lessened, reckoned(one, other, -1), one=one, other=other)
            self.told(times, multiplied(one, other), one=one, other=other)
            numbers = tuple(chance.choice((0, 1, -1, 2, -3, GREAT)) for _ in range(unknowns))
            self.told(worth_at, worth(one, numbers), one=one, numbers=numbers)

    def test_worths_go_together(self):
        for chance, unknowns, one, other in samples():
            numbers = tuple(chance.randint(-9, 9) for _ in range(unknowns))
            a, b = worth_at(one, numbers), worth_at(other, numbers)
            self.assertEqual(worth_at(added(one, other), numbers), a + b)
            self.assertEqual(worth_at(lessened(one, other), numbers), a - b)
            self.assertEqual(worth_at(times(one, other), numbers), a * b)

    def test_all_that_is_told_is_a_sum(self):
        for chance, unknowns, one, other in samples():
            for told in (added(one, other), lessened(one, other), times(one, other), times(one, one)):
                self.assertTrue(is_sum(unknowns, told))

    def test_outright(self):
        x, y, one = (((1, 0), 1),), (((0, 1), 1),), (((0, 0), 1),)
        both, less = (((0, 1), 1), ((1, 0), 1)), (((0, 1), -1), ((1, 0), 1))
        self.told(added, both, one=x, other=y)
        self.told(added, both, one=y, other=x)
        self.told(lessened, less, one=x, other=y)
        self.told(lessened, (((0, 1), 1), ((1, 0), -1)), one=y, other=x)
        self.told(times, (((0, 2), -1), ((2, 0), 1)), one=both, other=less)
        self.told(times, (((1, 1), 1),), one=x, other=y)
        self.told(times, (((0, 2), 1), ((1, 1), 2), ((2, 0), 1)), one=both, other=both)
        self.told(times, both, one=one, other=both)
        self.told(added, (((0, 0), 1), ((0, 1), 1), ((1, 0), 1)), one=both, other=one)

    def test_nought(self):
        one = (((0, 0), -4), ((3, 1), 2))
        self.told(added, one, one=one, other=())
        self.told(added, one, one=(), other=one)
        self.told(lessened, one, one=one, other=())
        self.told(lessened, (((0, 0), 4), ((3, 1), -2)), one=(), other=one)
        for function in (added, lessened, times):
            self.told(function, (), one=(), other=())
        self.told(times, (), one=one, other=())
        self.told(times, (), one=(), other=one)
        self.told(worth_at, 0, one=(), numbers=(3, 4))
        self.told(worth_at, 0, one=(), numbers=())

    def test_sums_that_cancel(self):
        one = (((0, 0, 1), 5), ((0, 2, 0), -7), ((1, 0, 0), 1))
        self.told(lessened, (), one=one, other=one)
        self.told(added, (), one=one, other=tuple((powers, -many) for powers, many in one))
        self.told(added, one[1:], one=one, other=(((0, 0, 1), -5),))
        self.told(lessened, one[:1], one=one, other=one[1:])
        self.told(added, (((0, 0, 1), 4), ((1, 0, 0), 1)), one=one, other=(((0, 0, 1), -1), ((0, 2, 0), 7)))

    def test_no_unknowns(self):
        five, seven = (((), 5),), (((), 7),)
        self.told(added, (((), 12),), one=five, other=seven)
        self.told(lessened, (((), -2),), one=five, other=seven)
        self.told(times, (((), 35),), one=five, other=seven)
        self.told(lessened, (), one=five, other=five)
        self.told(worth_at, 5, one=five, numbers=())

    def test_great_powers_and_numbers(self):
        one = (((0, GREAT), GREAT), ((GREAT, 0), -1))
        self.told(times, (((0, 2 * GREAT), GREAT ** 2), ((GREAT, GREAT), -2 * GREAT), ((2 * GREAT, 0), 1)), one=one, other=one)
        self.told(added, (((0, GREAT), GREAT), ((GREAT, 0), -1), ((GREAT, 1), 3)), one=one, other=(((GREAT, 1), 3),))
        # Powers that stand beside one another keep apart, however great one of them becomes.
        for powers, more in itertools.product([(0, 255), (1, 255), (255, 1), (7, 8), (0, 0)], repeat=2):
            wanted = ((tuple(a + b for a, b in zip(powers, more)), 6),)
            self.told(times, wanted, one=((powers, 2),), other=((more, 3),))

    def test_worth(self):
        one = (((0, 0), 4), ((0, 3), -1), ((2, 1), 5))
        for numbers, wanted in (((0, 0), 4), ((1, 1), 8), ((-1, 1), 8), ((0, 2), -4), ((3, -2), -78), ((1, 0), 4)):
            self.told(worth_at, wanted, one=one, numbers=numbers)
        x, y = GREAT, -GREAT - 1
        self.told(worth_at, 4 - y ** 3 + 5 * x ** 2 * y, one=one, numbers=(x, y))
        self.told(worth_at, 3, one=(((0,), 3),), numbers=(0,))
        self.told(worth_at, 0, one=(((1,), 3),), numbers=(0,))
        # What is taken so often that it could be reckoned in no time but for these numbers.
        self.told(worth_at, -6, one=(((10 ** 59 + 1, 10 ** 59, GREAT), 6),), numbers=(-1, -1, 1))
        self.told(worth_at, 0, one=(((10 ** 59 + 1, 10 ** 59, GREAT), 6),), numbers=(-1, 0, 1))

    def test_long_sums(self):
        one = tuple(((a, b), a - b or 1) for a in range(30) for b in range(30))
        other = (((0, 0), 1), ((0, 1), -1), ((1, 0), 1))
        self.told(times, multiplied(one, other), one=one, other=other)
        self.told(times, multiplied(other, one), one=other, other=one)


class IsSum(unittest.TestCase):
    def is_sum(self, many, thing):
        ahead = repr(thing)
        told = is_sum(many, thing)
        self.assertIs(type(told), bool)
        self.assertIs(is_sum(thing=thing, many=many), told)
        self.assertEqual(repr(thing), ahead)
        return told

    def test_sums(self):
        for _, unknowns, one, other in samples():
            self.assertTrue(self.is_sum(unknowns, one))
            self.assertTrue(self.is_sum(unknowns, other))
        for thing in ((), (((0, 0), 1),), (((0, 0), -1), ((0, 1), 1)), (((0, 9), 1), ((1, 0), 1)), (((GREAT, 0), GREAT),)):
            self.assertTrue(self.is_sum(2, thing))
        self.assertTrue(self.is_sum(0, (((), -3),)))
        self.assertTrue(self.is_sum(1, (((0,), 1), ((1,), 1), ((2,), 1), ((10,), 1))))

    def test_such_with_one_thing_otherwise(self):
        one = (((0, 0), 1), ((0, 1), -2), ((1, 0), 3))
        self.assertTrue(self.is_sum(2, one))
        for unknowns in (0, 1, 3, 4):
            self.assertFalse(self.is_sum(unknowns, one))
        wrong = [
            (one[1], one[0], one[2]), (one[0], one[2], one[1]), one[::-1], one + one[2:], one[:1] + one, one[:2] + one[1:],
            one + (((0, 2), 1),), (((0, 0), 0),) + one[1:], one[:2] + (((1, 0), 0),), (((0, -1), 1),) + one,
            (((-1, 0), 1),) + one, one + (((1,), 1),), one + (((1, 0, 0), 1),), one + (((), 1),), list(one),
            one[:2] + ([(1, 0), 3],), one[:2] + (([1, 0], 3),), one[:2] + (((1, 0), 3, 3),), one[:2] + (((1, 0),),),
            one[:2] + ((1, 0),), one[:2] + ((1, 0, 3),), one[:2] + (((1, 0), (3,)),), one[:2] + ((3, (1, 0)),), {(0, 0): 1},
            (((0, 0), 1), ((0, 0), 2)), one[:2] + ("ab",), one[:2] + (("ab", 1),), one + ((),), ((0, 0), 1),
        ]
        for thing in wrong:
            self.assertFalse(self.is_sum(2, thing), thing)

    def test_no_wholes(self):
        for thing in NO_WHOLES:
            self.assertFalse(self.is_sum(2, (((0, thing), 1),)), thing)
            self.assertFalse(self.is_sum(2, (((thing, 0), 1),)), thing)
            self.assertFalse(self.is_sum(2, (((0, 0), thing),)), thing)
            self.assertFalse(self.is_sum(2, (((0, 0), 1), ((1, thing), 1))), thing)
            self.assertFalse(self.is_sum(2, (thing,)), thing)
            self.assertFalse(self.is_sum(2, (((0, 0), 1), thing)), thing)
            self.assertEqual(self.is_sum(2, thing), thing == () and type(thing) is tuple)
            self.assertEqual(self.is_sum(0, ((thing, 1),)), thing == () and type(thing) is tuple)
            self.assertEqual(self.is_sum(1, ((thing, 1),)), type(thing) is tuple and thing == (1,))

    def test_deep_and_long(self):
        deep = 1
        for _ in range(29):
            deep = (deep,)
        self.assertFalse(self.is_sum(1, deep))
        self.assertFalse(self.is_sum(1, ((deep, 1),)))
        long = tuple(((at,), -at - 1) for at in range(15000))
        self.assertTrue(self.is_sum(1, long))
        self.assertFalse(self.is_sum(1, long + long[-1:]))
        self.assertFalse(self.is_sum(2, long))
        self.assertFalse(self.is_sum(1, long[1:] + long[:1]))
