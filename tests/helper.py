"""What several tests share: numbers reckoned another way, and things of all kinds."""

import random
import re
from fractions import Fraction
from math import isqrt

from pointhouse.exacts import Exact

# Things that are no whole numbers, of anything that may be handed in.
NO_WHOLES = (True, False, None, "", "1", "0", (), (1,), [], [1], {}, {1: 1}, Exact(1), ((1, 2), [3]))


def fields(number):
    return (number.top, number.bottom, number.sign, number.over, number.under)


def squarefree(many):
    """(side, rest): many is side * side * rest, and no square above 1 goes into rest."""
    side, rest, factor = 1, many, 2
    while factor * factor <= rest:
        while rest % (factor * factor) == 0:
            rest //= factor * factor
            side *= factor
        factor += 1
    return side, rest


def parts_of(number):
    """(quotient, many, rest): the number is quotient + many times the root of rest, a whole
    number into which no square goes (many 0 and rest 1 where there is no root)."""
    if number.sign == 0:
        return Fraction(number.top, number.bottom), Fraction(0), 1
    side, rest = squarefree(number.over * number.under)
    return Fraction(number.top, number.bottom), Fraction(number.sign * side, number.under), rest


def fields_of(quotient, many, rest):
    """The five fields that belong to such parts."""
    if rest == 1:
        quotient, many = quotient + many, Fraction(0)
    square = many * many * rest
    sign = (many > 0) - (many < 0)
    if sign == 0:
        square = Fraction(0)
    return (quotient.numerator, quotient.denominator, sign, square.numerator, square.denominator)


class Surd:
    """quotient + many times the root of rest, reckoned here another way."""

    def __init__(self, quotient, many=0, rest=1):
        self.quotient, self.many, self.rest = Fraction(quotient), Fraction(many), rest if many else 1

    def root_with(self, other):
        assert 1 in (self.rest, other.rest) or self.rest == other.rest, "these roots don't go together"
        return max(self.rest, other.rest)

    def __add__(self, other):
        return Surd(self.quotient + other.quotient, self.many + other.many, self.root_with(other))

    def __sub__(self, other):
        return self + other * Surd(-1)

    def __mul__(self, other):
        rest = self.root_with(other)
        many = self.quotient * other.many + self.many * other.quotient
        return Surd(self.quotient * other.quotient + self.many * other.many * rest, many, rest)

    def __eq__(self, other):
        return (self.quotient, self.many, self.rest) == (other.quotient, other.many, other.rest)


def surds(numbers):
    return [Surd(*parts_of(number)) for number in numbers]


def scaled(number, figures):
    """A whole number at most 2 away from the number times ten to this power."""
    scale = 10 ** figures
    root = isqrt(scale * scale * number.over // number.under)
    return scale * number.top // number.bottom + number.sign * root


def samples():
    """Numbers of every form, many of them with roots that go together."""
    quotients = [(0, 1), (1, 1), (-1, 1), (2, 3), (-7, 4), (5, 1)]
    roots = [(0, 1), (2, 1), (8, 1), (1, 2), (9, 2), (3, 1), (12, 25), (5, 4), (6, 1)]
    found = []
    for top, bottom in quotients:
        for over, under in roots:
            for sign in (-1, 1) if over else (0,):
                found.append(Exact(top, bottom, sign=sign, over=over, under=under))
    return found


def root(over, under=1, *, top=0, bottom=1, sign=1):
    return Exact(top, bottom, sign=sign, over=over, under=under)


def place(x, y):
    """A point of whole numbers, quotients and Exacts."""
    return exact(x), exact(y)


def exact(thing):
    if isinstance(thing, Exact):
        return thing
    quotient = Fraction(thing)
    return Exact(quotient.numerator, quotient.denominator)


def flat(things):
    """All numbers in points, lines and circles, in order."""
    if isinstance(things, Exact):
        return [things]
    return [number for thing in things for number in flat(thing)]


# What point 6 wants of each word, in its own letters: names of points (P, Q, O), lines (L, M), circles (C), numbers.
PATTERNS = {
    "free": "N", "on": "N L", "round": "N C", "meet": "N L M", "middle": "N P Q", "foot": "N P L", "mirror": "N P L",
    "turn": "N P O n", "other": "N L C P", "cross": "N L C k", "line": "N P Q", "along": "N P L", "upright": "N P L",
    "circle": "N O P",
}
LINES = ("line", "along", "upright")


def letters_of(step):
    """The letters of point 6, each with what stands there in the step."""
    return dict(zip(PATTERNS[step[0]].split(), step[1:]))


def sort_wanted(letter):
    return {"L": "line", "M": "line", "C": "circle"}.get(letter, "point")


def sort_made(step):
    return "line" if step[0] in LINES else "circle" if step[0] == "circle" else "point"


def names_of(step):
    """The names of which a step is made."""
    return [part for letter, part in letters_of(step).items() if letter in "PQOLMC"]


def goes_on(ahead, step):
    """Whether anything is a further step behind a list of steps."""
    if type(step) is not tuple or not step or type(step[0]) is not str or step[0] not in PATTERNS:
        return False
    if len(step) != 1 + len(PATTERNS[step[0]].split()):
        return False
    made = {one[1]: one for one in ahead}
    letters = letters_of(step)
    for letter, part in letters.items():
        if letter in "nk":
            if type(part) is not int or part not in ({1, 2, 3} if letter == "n" else {0, 1}):
                return False
        elif type(part) is not str or not re.fullmatch("[a-z]{1,8}", part) or (part in made) != (letter != "N"):
            return False
        elif letter != "N" and sort_made(made[part]) != sort_wanted(letter):
            return False
    if len(set(names_of(step))) < len(names_of(step)):
        return False
    return step[0] != "other" or is_other(made[letters["L"]], made[letters["C"]], letters["P"])


def is_other(line, circle, point):
    through = {"line": line[2:4], "along": line[2:3], "upright": line[2:3]}[line[0]]
    return point in through and circle[3] == point


def first_wrong(steps):
    """The number of the first of the things that is no further step, None where there is none."""
    for number, step in enumerate(steps):
        if not goes_on(steps[:number], step):
            return number
    return None


def any_sketch(chance, many, ahead=()):
    """A sketch of so many steps, whose words, names and parts hang on chance, but for those ahead."""
    steps = list(ahead)
    while len(steps) < many:
        # Few things fit into an `other` or a cross, so these are tried more often.
        word = chance.choice(["free"] if len(steps) < 2 else list(PATTERNS) + ["other"] * 9 + ["cross", "meet"])
        parts = []
        for letter in PATTERNS[word].split():
            fitting = [one[1] for one in steps if sort_made(one) == sort_wanted(letter)]
            if letter == "N":
                parts.append("".join(chance.choice("abcxyz") for _ in range(chance.randint(1, 8))))
            elif letter in "nk":
                parts.append(chance.choice([1, 2, 3] if letter == "n" else [0, 1]))
            else:
                parts.append(chance.choice(fitting or [""]))
        if goes_on(steps, (word, *parts)):
            steps.append((word, *parts))
    return tuple(steps)


def lines_as_sketch(*rows):
    """A sketch of rows in words, for tests that ask of no text."""
    return tuple(tuple(int(part) if part.isdigit() else part for part in row.split()) for row in rows)


# Sketches of all words, with names that are words, beginnings of one another, and of one to eight letters.
SKETCHES = (
    (),
    lines_as_sketch("free a"),
    lines_as_sketch("free a", "free b", "free c", "line l a b", "line m a c", "on p l", "circle k a b", "round r k",
                    "meet x l m", "middle h b c", "foot f c l", "mirror w c l", "turn t a b 3", "cross y m k 1"),
    lines_as_sketch("free o", "free p", "free q", "line l p q", "line m q p", "upright u p m", "along n p u",
                    "circle k o p", "other w l k p", "other x m k p", "other y n k p", "other z u k p", "cross v l k 0",
                    "turn s v z 1"),
    lines_as_sketch("free free", "free line", "line on free line", "on round on", "circle circle line free",
                    "round meet circle", "along middle meet on", "meet foot middle on", "upright turn foot middle",
                    "turn other foot meet 2"),
    lines_as_sketch("free a", "free aa", "free aaa", "line aaaa a aa", "line aaaab aa aaa", "meet abcdefgh aaaa aaaab",
                    "mirror abcdefgi a aaaab", "foot abcdefg aaa aaaa", "middle z abcdefgh abcdefgi",
                    "circle abcdefhg z a", "round zz abcdefhg", "other b aaaa abcdefhg a"),
)

# Behind these many things have roots.
WITH_CROSSES = (
    lines_as_sketch("free a", "free b", "free c", "free d", "line l a b", "circle k c d", "cross x l k 0"),
    lines_as_sketch("free a", "free b", "free c", "line l a b", "line m b c", "circle k c a", "circle j a b",
                    "cross x l k 1", "cross y m j 0", "circle i x c", "line n y a"),
)

# How many numbers of the hand a step of each word has.
OWN = {"free": 2, "on": 1, "round": 1}


def hand_of(*numbers):
    return tuple(exact(number) for number in numbers)


def any_hand(chance, many):
    """Small whole numbers, or quotients, so that some steps can't be done."""
    span, under = chance.choice(((1, 1), (4, 1), (4, 1), (4, 2), (4, 3)))
    return tuple(Exact(chance.randint(-span, span), chance.randint(1, under)) for _ in range(many))


def chance_sketches(first, last):
    """Sketches that hang on chance, with what their choice hung on; most of them have crosses."""
    for seed in range(first, last):
        chance = random.Random(seed)
        if seed % 3 == 0:
            yield chance, any_sketch(chance, chance.randint(0, 12))
        else:
            ahead = chance.choice(WITH_CROSSES)
            yield chance, any_sketch(chance, chance.randint(len(ahead), 14), ahead)


# How many names each word of a saying has, but at.
SAYINGS = {"same": 2, "row": 3, "along": 4, "upright": 4, "alike": 4, "angle": 6, "ring": 4}


def sayings_of(sketch, chance):
    """Sayings of each word, of any names, the same ones too."""
    points = [step[1] for step in sketch if sort_made(step) == "point"]
    others = [step[1] for step in sketch if sort_made(step) != "point"]
    for word, many in SAYINGS.items():
        yield (word, *(chance.choice(points) for _ in range(many)))
    for other in others:
        yield ("at", chance.choice(points), other)
