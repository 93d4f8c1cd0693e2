"""Sums of powers of one unknown, by quotients: pairs (numbers, bottom), whole numbers of the powers from 0 on, the last
one not 0, all of them by a bottom above 0. Nought has no numbers."""

from itertools import zip_longest
from math import lcm

from pointhouse.wholes import greatest_shared


class PowerReckoner:
    """Reckons with sums of powers of one unknown."""

    def whole(self, number):
        """This whole number as a sum."""
        return trimmed([number]), 1

    def added(self, one, other):
        """One and the other together."""
        return together(one, other, 1)

    def lessened(self, one, other):
        """One less the other."""
        return together(one, other, -1)

    def multiplied(self, one, other):
        """One times the other."""
        return product_of(one[0], other[0]), one[1] * other[1]

    def is_nought(self, one):
        """Whether it is nought."""
        return one[0] == ()


def sum_of_number(number):
    """A number without a root as a sum."""
    return trimmed([number.top]), number.bottom


def trimmed(numbers):
    """The numbers up to the last one that isn't 0."""
    rest = list(numbers)
    while rest and rest[-1] == 0:
        rest.pop()
    return tuple(rest)


def together(one, other, many):
    """One sum and another one so many times."""
    bottom = lcm(one[1], other[1])
    first = [number * (bottom // one[1]) for number in one[0]]
    second = [number * (bottom // other[1]) * many for number in other[0]]
    return trimmed([a + b for a, b in zip_longest(first, second, fillvalue=0)]), bottom


def product_of(one, other):
    """The numbers of a product, by those of both sums."""
    numbers = [0] * (len(one) + len(other))
    for at, a in enumerate(one):
        for to, b in enumerate(other):
            numbers[at + to] = numbers[at + to] + a * b
    return trimmed(numbers)


def without_factor(sums):
    """The sums, not all nought, as they are to one another, but of whole numbers and sharing no factor."""
    cleared = without_bottoms(sums)
    # A factor that is found and goes into all of them is the greatest one. Were it times K to go into all, too, what K
    # comes to at the great number would go into that by which the factor was lightened, so it would be at most half the
    # great number. But K's roots are roots of the sum with the least numbers, so each is less than 1 and the greatest
    # of these, which is at most half the great number: K would come to more.
    bits = 1 + least_bits(cleared)
    while True:
        factor = factor_at(cleared, bits)
        parts = [parted(numbers, factor) for numbers in cleared]
        if None not in parts:
            return tuple([(numbers, 1) for numbers in parts])
        bits = 2 * bits


def without_bottoms(sums):
    """The numbers of sums as they are to one another, whole and sharing no factor."""
    whole = 1
    for _, bottom in sums:
        whole = lcm(whole, bottom)
    cleared = [[number * (whole // bottom) for number in numbers] for numbers, bottom in sums]
    shared = greatest_shared([number for numbers in cleared for number in numbers])
    return [tuple([number // shared for number in numbers]) for numbers in cleared]


def least_bits(cleared):
    """Of each sum that isn't nought the bits of its greatest number: the least of these."""
    return min([max([abs(number).bit_length() for number in numbers]) for numbers in cleared if numbers])


def factor_at(cleared, bits):
    """The sum that comes, at a great number, to what all these sums there share, each of its numbers at most half as
    great, lightened; the great number is 2 taken so often."""
    shared = greatest_shared([worth_at(numbers, bits) for numbers in cleared])
    great = 1 << bits
    numbers = []
    while shared != 0:
        number = shared & (great - 1)
        if 2 * number > great:
            number = number - great
        numbers.append(number)
        shared = (shared - number) >> bits
    lightly = greatest_shared(numbers)
    return tuple([one // lightly for one in numbers])


def worth_at(numbers, bits):
    """What a sum comes to at the number that is 2 taken so often."""
    worth = 0
    for number in reversed(numbers):
        worth = (worth << bits) + number
    return worth


def parted(one, other):
    """The numbers, whole ones, of one sum by another one that isn't nought; None where there are none."""
    rest = list(one)
    quotient = [0] * (len(one) - len(other) + 1)
    for at in reversed(range(len(quotient))):
        many = rest[at + len(other) - 1] // other[-1]
        quotient[at] = many
        for to, number in enumerate(other):
            rest[at + to] = rest[at + to] - many * number
    return tuple(quotient) if trimmed(rest) == () else None
