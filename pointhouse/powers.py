"""Sums of powers of one unknown, reckoned modulo a great prime: tuples of the numbers of powers from 0 on, the last
one not 0, () being nought. So their greatest powers are told where the numbers themselves would take too long."""

# Less one this is a power of two, so that no two squares but noughts come to nought together, as with all numbers.
# It is far too great to go by chance into what hands lead to.
PRIME = 170141183460469231731687303715884105727


def residue(number):
    """A number without a root, modulo the prime."""
    return number.top * turned_over(number.bottom) % PRIME


def turned_over(number):
    """1 by a number, modulo the prime, that isn't nought there."""
    return pow(int(number), 170141183460469231731687303715884105725, 170141183460469231731687303715884105727)


def trimmed(numbers):
    """The sum of a list of numbers of powers, modulo the prime."""
    rest = [number % PRIME for number in numbers]
    while rest and rest[-1] == 0:
        rest.pop()
    return tuple(rest)


def powers_added(one, other, many):
    """One sum and another one so many times."""
    size = max(len(one), len(other))
    first = list(one) + [0] * (size - len(one))
    second = list(other) + [0] * (size - len(other))
    return trimmed([a + many * b for a, b in zip(first, second)])


def powers_times(one, other):
    """One sum times another one."""
    numbers = [0] * (len(one) + len(other))
    for at, a in enumerate(one):
        for to, b in enumerate(other):
            numbers[at + to] = numbers[at + to] + a * b
    return trimmed(numbers)


def parted(one, other):
    """(quotient, rest) of one sum by another one that isn't nought."""
    rest = list(one)
    quotient = [0] * max(0, len(one) - len(other) + 1)
    first = turned_over(other[-1])
    for at in reversed(range(len(quotient))):
        many = rest[at + len(other) - 1] * first % PRIME
        quotient[at] = many
        for to, b in enumerate(other):
            rest[at + to] = (rest[at + to] - many * b) % PRIME
    return trimmed(quotient), trimmed(rest)


def shared_factor(one, other):
    """The greatest sum by which both sums can be parted."""
    while other:
        one, other = other, parted(one, other)[1]
    return one


def without_factor(thing):
    """The sums of a thing without the factor that they share; not all are nought."""
    shared = ()
    for one in thing:
        shared = shared_factor(one, shared)
    return tuple([parted(one, shared)[0] for one in thing])


class PowerReckoner:
    """Reckons with sums of powers of one unknown, modulo the prime."""

    def whole(self, number):
        """This whole number as a sum."""
        return trimmed([number])

    def added(self, one, other):
        """One and the other together."""
        return powers_added(one, other, 1)

    def lessened(self, one, other):
        """One less the other."""
        return powers_added(one, other, -1)

    def multiplied(self, one, other):
        """One times the other."""
        return powers_times(one, other)

    def is_nought(self, one):
        """Whether it is nought."""
        return one == ()
