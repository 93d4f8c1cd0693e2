"""Exact numbers: a quotient and, with a sign, the root of another quotient."""

from math import isqrt

from pointhouse.errors import NoBottom, NoExact, NoText, TwoRoots
from pointhouse.wholes import is_square, is_whole, lowest_terms, power_of_ten, sign_of_whole

MOST_FIGURES = 60


class Exact:
    """top / bottom and, sign times, the root of over / under: each number in just one form."""

    def __init__(self, top, bottom=1, *, sign=0, over=0, under=1):
        if not are_fields(top, bottom, sign, over, under):
            raise NoExact("these numbers make no Exact")
        if sign == 0:
            over, under = 0, 1
        over, under = lowest_terms(over, under)
        if is_square(over) and is_square(under):
            parts = isqrt(under)
            top, bottom = top * parts + sign * isqrt(over) * bottom, bottom * parts
            sign, over, under = 0, 0, 1
        self.top, self.bottom = lowest_terms(top, bottom)
        self.sign = sign
        self.over = over
        self.under = under

    def __eq__(self, other):
        return (
            isinstance(other, Exact)
            and self.top == other.top
            and self.bottom == other.bottom
            and self.sign == other.sign
            and self.over == other.over
            and self.under == other.under
        )

    def __str__(self):
        return f"{quotient_text(self.top, self.bottom)}{root_text(self.sign, self.over, self.under)}"

    def __repr__(self):
        return f"Exact({str(self)})"

    def plus(self, other):
        """The sum; TwoRoots where both have roots that don't go together."""
        over, under, parts, mine, theirs = on_one_root(self, other)
        top = self.top * other.bottom + other.top * self.bottom
        return with_root(top, self.bottom * other.bottom, mine + theirs, parts, over, under)

    def minus(self, other):
        """The difference; TwoRoots as plus."""
        less = Exact(-other.top, other.bottom, sign=-other.sign, over=other.over, under=other.under)
        return self.plus(less)

    def times(self, other):
        """The product; TwoRoots as plus."""
        over, under, parts, mine, theirs = on_one_root(self, other)
        bottom = self.bottom * other.bottom
        square = parts * parts * under
        top = self.top * other.top * square + mine * theirs * over * bottom
        many = self.top * other.bottom * theirs + other.top * self.bottom * mine
        return with_root(top, bottom * square, many, bottom * parts, over, under)

    def by(self, other):
        """The quotient; NoBottom where other is nought, TwoRoots as plus."""
        if other.sign_of() == 0:
            raise NoBottom("nought is no number to divide by")
        # Both are multiplied by other with its root's sign changed: other loses its root so,
        # and this root is still the one that a refusal tells.
        mate = Exact(other.top, other.bottom, sign=-other.sign, over=other.over, under=other.under)
        return self.times(mate).times(turned_over(other.times(mate)))

    def sign_of(self):
        """-1, 0 or 1: below nought, nought, above."""
        # The greater of the two parts has the number's sign; alike in size they are just where both are nought.
        if self.top ** 2 * self.under > self.over * self.bottom ** 2:
            return sign_of_whole(self.top)
        return self.sign

    def is_less(self, other):
        """Whether this is less than other; TwoRoots as minus."""
        return self.minus(other).sign_of() < 0

    def decimals(self, places):
        """The text of the number cut, towards nought, to so many places."""
        size = cut_size(self, power_of_ten(places))
        minus = "-" if size > 0 and self.sign_of() < 0 else ""
        figures = str(size).zfill(places + 1)
        if places < 1:
            return f"{minus}{figures}"
        return f"{minus}{figures[:-places]}.{figures[-places:]}"


def read_exact(text):
    """The Exact whose str the text is; else, of anything, NoText(0)."""
    if isinstance(text, str):
        number = number_in(text)
        # Many writings can be read; only the one that is written again is right.
        if number is not None and str(number) == text:
            return number
    raise NoText(0)


def are_fields(top, bottom, sign, over, under):
    """Whether things, of anything, are the five numbers of an Exact."""
    if not all([is_whole(thing) for thing in (top, bottom, sign, over, under)]):
        return False
    return bottom > 0 and sign in (-1, 0, 1) and over >= 0 and under > 0


def go_together(one, other):
    """Whether the roots of both numbers go together; they do where a number has none."""
    # A quotient is a square just where its top times its bottom is one.
    return is_square(one.over * one.under * other.over * other.under)


def on_one_root(one, other):
    """(over, under, parts, many, more): the roots of both numbers are many / parts times and
    more / parts times the root of over / under. TwoRoots where no root is such."""
    if one.sign == 0:
        return other.over, other.under, 1, 0, other.sign
    if other.sign == 0:
        return one.over, one.under, 1, one.sign, 0
    if not go_together(one, other):
        raise TwoRoots((one.over, one.under), (other.over, other.under))
    top, bottom = lowest_terms(other.over * one.under, other.under * one.over)
    parts = isqrt(bottom)
    return one.over, one.under, parts, one.sign * parts, other.sign * isqrt(top)


def with_root(top, bottom, many, parts, over, under):
    """top / bottom and many / parts times the root of over / under."""
    return Exact(top, bottom, sign=sign_of_whole(many), over=many * many * over, under=parts * parts * under)


def turned_over(number):
    """1 by a number that has no root and isn't nought."""
    return Exact(sign_of_whole(number.top) * number.bottom, abs(number.top))


def cut_size(number, many):
    """The size of the number, its sign left off, taken many times and cut to a whole number."""
    sign = number.sign_of()
    bottom = number.bottom * number.under
    size = many * sign * number.top * number.under
    root = isqrt((many * number.bottom) ** 2 * number.over * number.under)
    if sign * number.sign > 0:
        size = size + root
    if sign * number.sign < 0:
        # The root is no whole number, so what is taken away is more than its whole part.
        size = size - root - 1
    return size // bottom


def quotient_text(top, bottom):
    """The text of a quotient in lowest terms."""
    return f"{top}" if bottom == 1 else f"{top}/{bottom}"


def root_text(sign, over, under):
    """The text of a root with its sign, of no signs where there is none."""
    if sign == 0:
        return ""
    mark = "+r" if sign > 0 else "-r"
    return f"{mark}{quotient_text(over, under)}"


def number_in(text):
    """The number that a text may be meant for, or None."""
    ahead, mark, root = text.partition("r")
    if mark == "":
        return exact_in(text, 0, "0")
    if ahead.endswith("+"):
        return exact_in(ahead[:-1], 1, root)
    if ahead.endswith("-"):
        return exact_in(ahead[:-1], -1, root)
    return None


def exact_in(quotient, sign, root):
    """The number of these two texts and this sign, or None."""
    below = quotient.startswith("-")
    top, bottom = quotient_in(quotient[1:] if below else quotient)
    over, under = quotient_in(root)
    if not are_fields(top, bottom, sign, over, under):
        return None
    return Exact(-top if below else top, bottom, sign=sign, over=over, under=under)


def quotient_in(text):
    """(top, bottom) of the text of a quotient without a minus, None for what isn't figures."""
    top, mark, bottom = text.partition("/")
    if mark == "":
        return figures_in(top), 1
    return figures_in(top), figures_in(bottom)


def figures_in(text):
    """The whole number of these figures, or None where they are none, others or too many."""
    if text.isascii() and text.isdigit() and len(text) <= MOST_FIGURES:
        return int(text)
    return None
