"""Ways run through, reckoned a second way: drawings over quotients of sums of powers of t, of fractions, each in its
lowest terms."""

from fractions import Fraction
from math import gcd, lcm

from tests.anew import Drawer, from_exact
from tests.general_anew import needed_anew, own_places
from tests.helper import hand_of


def trimmed(numbers):
    numbers = list(numbers)
    while numbers and numbers[-1] == 0:
        numbers.pop()
    return numbers


def plus(one, other, sign=1):
    size = max(len(one), len(other))
    one, other = one + [0] * (size - len(one)), other + [0] * (size - len(other))
    return trimmed(a + sign * b for a, b in zip(one, other))


def times(one, other):
    found = [Fraction(0)] * (len(one) + len(other))
    for at, a in enumerate(one):
        for to, b in enumerate(other):
            found[at + to] += a * b
    return trimmed(found)


def parted(one, other):
    quotient, rest = [Fraction(0)] * max(0, len(one) - len(other) + 1), list(one)
    while len(rest) >= len(other):
        at, many = len(rest) - len(other), Fraction(rest[-1]) / other[-1]
        quotient[at] = many
        rest = trimmed(plus(rest, [Fraction(0)] * at + [many * b for b in other], -1))
    return trimmed(quotient), rest


def shared(one, other):
    while other:
        one, other = other, parted(one, other)[1]
    return [Fraction(number) / one[-1] for number in one]


class Ratio:
    """One sum by another one, in lowest terms, the last number of the lower one 1."""

    m = 0

    def __init__(self, top, bottom=(Fraction(1),)):
        top, bottom = trimmed(top), trimmed(bottom)
        factor = shared(bottom, top)
        top, bottom = parted(top, factor)[0], parted(bottom, factor)[0]
        self.top, self.bottom = [number / bottom[-1] for number in top], [number / bottom[-1] for number in bottom]

    def of(self, other):
        return other if isinstance(other, Ratio) else Ratio([Fraction(other)])

    def __add__(self, other):
        other = self.of(other)
        return Ratio(plus(times(self.top, other.bottom), times(other.top, self.bottom)), times(self.bottom, other.bottom))

    def __neg__(self):
        return Ratio([-number for number in self.top], self.bottom)

    def __sub__(self, other):
        return self + -self.of(other)

    def __mul__(self, other):
        other = self.of(other)
        return Ratio(times(self.top, other.top), times(self.bottom, other.bottom))

    def __truediv__(self, other):
        other = self.of(other)
        return Ratio(times(self.top, other.bottom), times(self.bottom, other.top))

    def is_nought(self):
        return not self.top


def run_of(sketch, hand, going):
    """What is drawn, by names, as the going one's number goes over all numbers."""
    names = [step[1] for step in sketch]
    (place,) = own_places(sketch)[names.index(going)]
    numbers = [Ratio([from_exact(number).q]) for number in hand]
    numbers[place] = Ratio([Fraction(0), Fraction(1)])
    return Drawer(sketch, numbers).made


def never_anew(sketch, made, name):
    """The first step that can be done by no number, or None."""
    for number in needed_anew(sketch, (name,)):
        if made[sketch[number][1]] is None:
            return number
    return None


def sums_anew(place):
    """(X, Y, W), sharing no factor."""
    x, y = place
    factor = shared(x.bottom, y.bottom)
    rest = parted(y.bottom, factor)[0]
    return times(x.top, rest), times(y.top, parted(x.bottom, factor)[0]), times(x.bottom, rest)


def primitive(numbers):
    whole = lcm(*[Fraction(number).denominator for number in numbers])
    numbers = [int(number * whole) for number in numbers]
    factor = gcd(*numbers) * (1 if next(number for number in numbers if number) > 0 else -1)
    return tuple(number // factor for number in numbers)


def is_nought_along(place, numbers):
    """Whether A x x + B x y + C y y + D x + E y + F is nought all along the way."""
    x, y = place
    parts = (x * x, x * y, y * y, x, y, Ratio([Fraction(1)]))
    whole = Ratio([])
    for part, number in zip(parts, numbers):
        whole = whole + part * number
    return whole.is_nought()


def line_along_anew(place):
    """(a, b, c) of the line on which all places lie, None where they don't; of a way that isn't at rest."""
    x, y = place
    if x.top == [] or (len(x.top) < 2 and len(x.bottom) < 2):
        return (Fraction(1), Fraction(0), x.top[0] if x.top else Fraction(0))
    # y is m x + c: m by two numbers, then by all.
    places = [point for point in (place_at(place, t) for t in range(60)) if point]
    first = places[0]
    second = next(point for point in places if point[0] != first[0])
    m = (second[1] - first[1]) / (second[0] - first[0])
    if not (y - x * m - (first[1] - m * first[0])).is_nought():
        return None
    # (-m) x + y is c, the first that isn't 0 being 1.
    numbers = (-m, Fraction(1), first[1] - m * first[0])
    lead = numbers[0] or numbers[1]
    return tuple(number / lead for number in numbers)


def worth(numbers, t):
    return sum((number * Fraction(t) ** at for at, number in enumerate(numbers)), Fraction(0))


def place_at(place, t):
    """(x, y) by a number, None where it is far out."""
    if any(worth(one.bottom, t) == 0 for one in place):
        return None
    return tuple(worth(one.top, t) / worth(one.bottom, t) for one in place)


def way_anew(place):
    """("rest", point), ("line", line, missed), ("fold", line), ("curve", missed) or ("more", n), of fractions."""
    sums = sums_anew(place)
    power = max(len(one) for one in sums) - 1
    if power == 0:
        return "rest", place_at(place, 0)
    if power > 2:
        return "more", power
    x, y, w = [one[power] if len(one) > power else Fraction(0) for one in sums]
    missed = None if w == 0 else (x / w, y / w)
    line = line_along_anew(place)
    if power == 1:
        return "line", line, missed
    return ("curve", missed) if line is None else ("fold", line)


def exacts(numbers):
    return None if numbers is None else hand_of(*numbers)


class Modulo:
    """A number modulo a prime."""

    m = 0

    def __init__(self, number, prime):
        self.number, self.prime = number % prime, prime

    def of(self, other):
        number = Fraction(other.number if isinstance(other, Modulo) else other)
        return number.numerator * pow(number.denominator, -1, self.prime)

    def __add__(self, other):
        return Modulo(self.number + self.of(other), self.prime)

    def __neg__(self):
        return Modulo(-self.number, self.prime)

    def __sub__(self, other):
        return Modulo(self.number - self.of(other), self.prime)

    def __mul__(self, other):
        return Modulo(self.number * self.of(other), self.prime)

    def __truediv__(self, other):
        return Modulo(self.number * pow(self.of(other), -1, self.prime), self.prime)

    def is_nought(self):
        return self.number == 0


def rank_of(rows, prime):
    """How many rows, of numbers modulo a prime, aren't put together of others."""
    rows, rank = [list(row) for row in rows], 0
    for column in range(len(rows[0])):
        lead = next((at for at in range(rank, len(rows)) if rows[at][column] % prime), None)
        if lead is None:
            continue
        rows[rank], rows[lead] = rows[lead], rows[rank]
        turned = pow(rows[rank][column], -1, prime)
        for row in rows[rank + 1:]:
            many = row[column] * turned % prime
            for at in range(column, len(row)):
                row[at] = (row[at] - many * rows[rank][at]) % prime
        rank += 1
    return rank


def power_by_places(sketch, hand, going, name, most, chance, prime):
    """The greatest power of a way, or most where it is more, by the places at numbers that hang on chance: the steps
    from one place to another, by those of the numbers, are rows of which so many aren't put together of others."""
    names = [step[1] for step in sketch]
    (place,) = own_places(sketch)[names.index(going)]
    numbers = [Modulo(number.top * pow(number.bottom, -1, prime), prime) for number in hand]
    many, drawn = chance.randrange(prime), []
    for number in [chance.randrange(prime) for _ in range(2 * most)]:
        numbers[place] = Modulo(number, prime)
        x, y = Drawer(sketch, numbers).made[name]
        drawn.append((number, (x + y * many).number))
    return rank_of([[(one - two) * pow(s - t, -1, prime) % prime for t, two in drawn[most:]]
                    for s, one in drawn[:most]], prime)
