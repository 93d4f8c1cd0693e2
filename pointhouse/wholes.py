"""Whole numbers: what is one, and what is reckoned with them alone."""

from math import gcd, isqrt


def is_whole(thing):
    """Whether anything is a whole number: Python's truths are ints, too, but not here."""
    return isinstance(thing, int) and not isinstance(thing, bool)


def sign_of_whole(number):
    """-1, 0 or 1."""
    if number > 0:
        return 1
    if number < 0:
        return -1
    return 0


def lowest_terms(top, bottom):
    """The quotient top / bottom in lowest terms; bottom is above 0."""
    shared = gcd(top, bottom)
    return top // shared, bottom // shared


def greatest_shared(numbers):
    """The greatest number that goes into all of these, 0 where all are 0."""
    shared = 0
    for number in numbers:
        shared = gcd(shared, number)
    return shared


def is_square(number):
    """Whether a number from 0 on is the square of a whole number."""
    return isqrt(number) ** 2 == number


def power_of_ten(many):
    """Ten taken so many times."""
    power = 1
    for _ in range(many):
        power = power * 10
    return power
