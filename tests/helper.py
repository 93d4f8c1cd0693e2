"""What several tests share: numbers reckoned another way, and things of all kinds."""

from fractions import Fraction
from math import isqrt

from pointhouse.exacts import Exact

# Things that are no whole numbers, of anything that may be handed in.
NO_WHOLES = (True, False, None, "", "1", "0", (), (1,), [], [1], {}, {1: 1}, Exact(1), ((1, 2), [3]))


def fields(number):
    return (number.top, number.bottom, number.sign, number.over, number.under)


def squarefree(many):
    """(side, rest): many is side * side * rest, and no square above 1 goes into rest."""
    side, rest, factor = 1, many, 2
    while factor * factor <= rest:
        while rest % (factor * factor) == 0:
            rest //= factor * factor
            side *= factor
        factor += 1
    return side, rest


def parts_of(number):
    """(quotient, many, rest): the number is quotient + many times the root of rest, a whole
    number into which no square goes (many 0 and rest 1 where there is no root)."""
    if number.sign == 0:
        return Fraction(number.top, number.bottom), Fraction(0), 1
    side, rest = squarefree(number.over * number.under)
    return Fraction(number.top, number.bottom), Fraction(number.sign * side, number.under), rest


def fields_of(quotient, many, rest):
    """The five fields that belong to such parts."""
    if rest == 1:
        quotient, many = quotient + many, Fraction(0)
    square = many * many * rest
    sign = (many > 0) - (many < 0)
    if sign == 0:
        square = Fraction(0)
    return (quotient.numerator, quotient.denominator, sign, square.numerator, square.denominator)


def scaled(number, figures):
    """A whole number at most 2 away from the number times ten to this power."""
    scale = 10 ** figures
    root = isqrt(scale * scale * number.over // number.under)
    return scale * number.top // number.bottom + number.sign * root


def samples():
    """Numbers of every form, many of them with roots that go together."""
    quotients = [(0, 1), (1, 1), (-1, 1), (2, 3), (-7, 4), (5, 1)]
    roots = [(0, 1), (2, 1), (8, 1), (1, 2), (9, 2), (3, 1), (12, 25), (5, 4), (6, 1)]
    found = []
    for top, bottom in quotients:
        for over, under in roots:
            for sign in (-1, 1) if over else (0,):
                found.append(Exact(top, bottom, sign=sign, over=over, under=under))
    return found
