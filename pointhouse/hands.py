"""Whole numbers for hands, in the order in which they are tried."""


def filled(hand, places, worths):
    """A hand, as a list, with these numbers at these places."""
    numbers = list(hand)
    for at, worth in zip(places, worths):
        numbers[at] = worth
    return numbers


def up_to(many, greatest):
    """All tuples of so many whole numbers from 0 to the greatest, rising."""
    rows = [()]
    for _ in range(many):
        rows = [(*row, number) for row in rows for number in range(greatest + 1)]
    return rows


def rising(many, greatest):
    """The tuples of so many whole numbers from 0 on whose greatest is this one, rising."""
    return [row for row in up_to(many, greatest) if max(row, default=0) == greatest]
