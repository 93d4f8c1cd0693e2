"""Point 18 by all hands within the bounds: also where what isn't nought is a multiple of a great number, and of
sketches of fourteen steps."""

import itertools
import random
import time
from fractions import Fraction
from math import gcd

from pointhouse.drawing import drawn, numbers_for
from pointhouse.exacts import Exact
from pointhouse.plane import line_along, line_through
from pointhouse.steps import hanging, needed
from tests.helper import any_sketch, exact, hand_of, lines_as_sketch, sort_made
from tests.test_ways import CIRCLE, LINE, Ways, place_drawn, with_number
from tests.ways_anew import never_anew, power_by_places, run_of

# The cross sum of the way from A to B and that from C to D isn't nought, but its top is a multiple of 2 ** 127 - 1.
A = ("890685/999671", "254816/999667")
B = ("877413/999499", "259026/999763")
C = ("703105/999809", "923037/999623")
D = ("708376/999953", "932708/999721")
LINES = ("free a", "free b", "free c", "free d", "line l a b", "on g l", "line m c d")
MEETS = (*LINES, "meet n l m", "middle w g n", "free e", "turn t g n 1", "line o t e", "mirror q n o", "foot f w o")
FALLS = (*LINES, "foot n g m", "free e", "line o n e", "mirror q c o", "line r q d", "mirror s g r", "middle t n s")
TURNS = (*LINES, "circle k a b", "round p k", "foot n p m", "line o n p", "middle q n p", "mirror r q l", "line s r n")
PRIMES = (998244353, 10 ** 9 + 7, 2 ** 31 - 1, 10 ** 12 + 39, 2 ** 61 - 1, 2 ** 64 - 59)
# By a hand of six-figure tops and bottoms what the last ones run through is of many powers.
HEAVY = (
    (*LINE, "line m p c", "mirror q a m", "line n q p", "mirror r b n", "line o r q", "mirror s c o", "line i s r",
     "mirror t p i", "middle u s t"),
    (*CIRCLE, "line m p c", "line n c a", "foot f b n", "mirror q f m", "line i q p", "mirror r f i", "line j r a",
     "turn t r q 1", "mirror u f j"),
    (*CIRCLE, "round q k", "line m p c", "mirror r q m", "line n r a", "mirror s p n", "line o c s", "mirror t r o",
     "line i c t", "foot u b i"),
    (*CIRCLE, "line m c p", "line n c a", "mirror q b m", "mirror r q n", "line o r a", "mirror s b o", "foot t q o",
     "line i t p", "mirror u c i"),
    (*CIRCLE, "line m p c", "round q k", "foot f a m", "line n f q", "mirror r c n", "mirror s r m", "line o b s",
     "mirror t s n", "foot u t o"),
    (*CIRCLE[:2], *CIRCLE[3:], "line m a p", "mirror q b m", "line n q a", "mirror r b n", "line o r a", "foot s b o",
     "turn t q s 1", "mirror u t m", "line i s u", "mirror v p i"),
)
# z is the mirror of x's mirror, so it is x, and no line leads through both.
NEVER = (*CIRCLE, "line m p c", "mirror q b m", "line n q p", "mirror x c n", "mirror y x n", "mirror z y n",
         "line o x z", "foot f b o", "middle g f p")


def left(point):
    """The point turned about (0, 0) by a right angle."""
    x, y = hand_of(*point)
    return Exact(-y.top, y.bottom), x


def two_factors(number, most=999999):
    """Two whole numbers up to most whose product is the number, or None."""
    for factor in range(number // most + 1, 40000):
        if number % factor == 0:
            return factor, number // factor
    return None


def short_ways(one, other):
    """Two short ones of the ways that are put together of two, in whole numbers."""
    while True:
        if dot(one, one) > dot(other, other):
            one, other = other, one
        many = round(Fraction(dot(one, other), dot(one, one)))
        if many == 0:
            return one, other
        other = (other[0] - many * one[0], other[1] - many * one[1])


def dot(one, other):
    return one[0] * other[0] + one[1] * other[1]


def crossing_ways(prime):
    """Two ways of six figures, tops and bottoms; their cross sum isn't nought, but its top is a multiple of a prime."""
    chance = random.Random(prime)
    while True:
        a, b, c, d = (chance.randrange(900001, 999999, 2) for _ in range(4))
        # (p / a) (s / d) less (q / b) (r / c) has the top (p s) b c less (q r) a d.
        one, other = short_ways((1, b * c * pow(a * d, -1, prime)), (0, prime))
        for i, j in itertools.product(range(-9, 10), repeat=2):
            first, second = two_factors(abs(i * one[0] + j * other[0])), two_factors(abs(i * one[1] + j * other[1]))
            if first is None or second is None:
                continue
            # Both products have the signs that they should have by one of these.
            sign = 1 if (i * one[0] + j * other[0] < 0) == (i * one[1] + j * other[1] < 0) else -1
            p, s, q, r = first[0], first[1], second[0] * sign, second[1]
            cross = (p * s) * b * c - (q * r) * a * d
            if cross != 0 and all(gcd(*pair) == 1 for pair in ((p, a), (q, b), (r, c), (s, d))):
                assert cross % prime == 0
                return (f"{p}/{a}", f"{q}/{b}"), (f"{r}/{c}", f"{s}/{d}")


class AnyHand(Ways):
    def check_each(self, rows, hand, going):
        """Each point that hangs on the going one, what is told and where it is by numbers, reckoned anew."""
        sketch = lines_as_sketch(*rows)
        made = run_of(sketch, hand, going)
        told = {}
        for number in hanging(sketch, going):
            name = sketch[number][1]
            if sort_made(sketch[number]) == "point":
                self.assertIsNone(never_anew(sketch, made, name))
                told[name] = self.way(sketch, hand, going, name)
                self.check_anew(sketch, hand, going, name, made[name], told[name])
        return told

    def test_lines_that_meet(self):
        hand = hand_of(*A, *B, *C, *D, "1/2", 3, "-1/7")
        told = self.check_each(MEETS, hand, "g")
        things = drawn(lines_as_sketch(*MEETS), hand)
        self.assertEqual(told["w"], ("line", line_through(things[0], things[1]), None))
        self.assertEqual(told["t"][0], "line")
        self.assertEqual(told["q"][0], "curve")

    def test_feet_that_move(self):
        hand = (*hand_of(*A, *B), *left(C), *left(D), *hand_of("1/2", 3, "-1/7"))
        told = self.check_each(FALLS, hand, "g")
        things = drawn(lines_as_sketch(*FALLS), hand)
        self.assertEqual(told["n"], ("line", line_through(things[2], things[3]), None))
        self.assertEqual({told[name][0] for name in "nqst"}, {"line", "curve", "more"})

    def test_feet_of_points_round(self):
        hand = (*hand_of(*A, *B), *left(C), *left(D), *hand_of("1/2", "-1/7"))
        told = self.check_each(TURNS, hand, "p")
        self.assertEqual(told["n"][0], "fold")

    def test_multiples_of_great_primes(self):
        rows = ("free a", "free b", "free c", "free d", "line l a b", "on g l", "line k a d", "along m c k", "meet n l m",
                "middle w g n", "upright u g k", "meet f u m", "middle v f c")
        for prime in PRIMES:
            one, other = crossing_ways(prime)
            hand = hand_of(0, 0, *one, 3, "-1/7", *other, 5)
            told = self.check_each(rows, hand, "g")
            _, b, c, d = drawn(lines_as_sketch(*rows), hand)[:4]
            origin = hand_of(0, 0)
            self.assertEqual(told["w"], ("line", line_through(origin, b), None), prime)
            self.assertEqual(told["f"][:2], ("line", line_along(c, line_through(origin, d))), prime)
            # Where the way of d is turned, g has one and the same foot but for numbers that aren't multiples.
            hand = (*hand_of(0, 0, *one, 3, "-1/7"), *left(other), Exact(5))
            told = self.check_each(rows, hand, "g")
            self.assertEqual({told["f"][0], told["v"][0]}, {"line"}, prime)


class FourteenSteps(Ways):
    def check(self, sketch, hand, name, chance, prime):
        """What is told, against what the places by other numbers tell; how long it took."""
        started = time.process_time()
        told = self.way(sketch, hand, "p", name)
        lasted = time.process_time() - started
        if told[0] == "never":
            for _ in range(3):
                number = Fraction(chance.randint(-999999, 999999), chance.randint(1, 999999))
                things = drawn(sketch, with_number(sketch, hand, "p", number))
                first = next(number for number in needed(sketch, (name,)) if things[number] is None)
                self.assertEqual(first, told[1], (sketch, hand))
            return told, lasted
        power = told[1] if told[0] == "more" else ("rest", "line", "curve").index(told[0].replace("fold", "curve"))
        self.assertEqual(power_by_places(sketch, hand, "p", name, power + 2, chance, prime), power, (sketch, hand))
        if told[0] != "more":
            there = place_drawn(sketch, hand, "p", name, "-777/1000")
            wanted = exact("-777/1000") if told[0] in ("line", "curve") and there is not None else None
            if there is not None:
                self.assertEqual(self.at(sketch, hand, "p", name, there), wanted, (sketch, hand))
        return told, lasted

    def test_of_many_powers(self):
        chance = random.Random(14)
        greatest = longest = 0
        for rows in HEAVY:
            sketch = lines_as_sketch(*rows)
            self.assertEqual(len(sketch), 14)
            for _ in range(3):
                hand = six_figures(chance, numbers_for(sketch))
                for number in hanging(sketch, "p"):
                    if sort_made(sketch[number]) == "point":
                        told, lasted = self.check(sketch, hand, sketch[number][1], chance, 2 ** 107 - 1)
                        longest = max(longest, lasted)
                        greatest = max(greatest, told[1] if told[0] == "more" else 0)
        self.assertGreater(greatest, 30)
        self.assertLess(longest, 2)

    def test_by_chance(self):
        chance = random.Random(1400)
        met, longest = {}, 0
        ahead = [lines_as_sketch(*rows[:7]) for rows in HEAVY]
        for _ in range(240):
            sketch = any_sketch(chance, 14, chance.choice(ahead))
            if "cross" in [step[0] for step in sketch]:
                continue
            hand = six_figures(chance, numbers_for(sketch))
            for number in hanging(sketch, "p"):
                name = sketch[number][1]
                if sort_made(sketch[number]) == "point":
                    told, lasted = self.check(sketch, hand, name, chance, 2 ** 89 - 1)
                    met[told[0]] = met.get(told[0], 0) + 1
                    longest = max(longest, lasted)
        self.assertEqual(set(met), {"rest", "line", "fold", "curve", "more", "never"}, met)
        self.assertLess(longest, 2)

    def test_never(self):
        chance = random.Random(1401)
        sketch = lines_as_sketch(*NEVER)
        for _ in range(3):
            hand = six_figures(chance, numbers_for(sketch))
            for name in "fg":
                started = time.process_time()
                self.assertEqual(self.way(sketch, hand, "p", name), ("never", 11))
                self.assertEqual(self.at(sketch, hand, "p", name, hand[:2]), ("never", 11))
                self.assertLess(time.process_time() - started, 4)


def six_figures(chance, many):
    """Numbers of six figures, tops and bottoms."""
    return tuple(Exact(chance.choice((1, -1)) * chance.randint(900000, 999999), chance.randint(900000, 999999))
                 for _ in range(many))
