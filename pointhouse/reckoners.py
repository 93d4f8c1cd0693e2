"""Reckoners: what is reckoned alike with whole numbers, Exacts and sums is written once, and handed one of these."""

from pointhouse.exacts import Exact
from pointhouse.sums import added, lessened, times


class WholeReckoner:
    """Reckons with whole numbers."""

    def whole(self, number):
        """This whole number."""
        return number

    def added(self, one, other):
        """One and the other together."""
        return one + other

    def lessened(self, one, other):
        """One less the other."""
        return one - other

    def multiplied(self, one, other):
        """One times the other."""
        return one * other

    def is_nought(self, one):
        """Whether it is nought."""
        return one == 0


class ExactReckoner:
    """Reckons with Exacts whose roots go together."""

    def whole(self, number):
        """This whole number as an Exact."""
        return Exact(number)

    def added(self, one, other):
        """One and the other together."""
        return one.plus(other)

    def lessened(self, one, other):
        """One less the other."""
        return one.minus(other)

    def multiplied(self, one, other):
        """One times the other."""
        return one.times(other)

    def is_nought(self, one):
        """Whether it is nought."""
        return one.sign_of() == 0


class SumReckoner:
    """Reckons with sums of so many unknowns."""

    def __init__(self, unknowns):
        self.unknowns = unknowns

    def whole(self, number):
        """This whole number as a sum."""
        return (((0,) * self.unknowns, number),) if number != 0 else ()

    def unknown(self, at):
        """The unknown of this number as a sum."""
        return ((tuple([1 if at == k else 0 for k in range(self.unknowns)]), 1),)

    def added(self, one, other):
        """One and the other together."""
        return added(one, other)

    def lessened(self, one, other):
        """One less the other."""
        return lessened(one, other)

    def multiplied(self, one, other):
        """One times the other."""
        return times(one, other)

    def is_nought(self, one):
        """Whether it is nought."""
        return one == ()
