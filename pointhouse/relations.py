"""Whole numbers found by what they keep."""

from math import lcm

from pointhouse.wholes import greatest_shared


def relation(rows):
    """The whole numbers, sharing no factor, the first that isn't 0 above 0, of which the products with each row's come
    to nought together; None where these are noughts alone. No others but multiples of them may be such."""
    solved = {}
    for row in rows:
        for at in solved:
            row = without_column(row, solved[at], at)
        leads = [at for at, number in enumerate(row) if number != 0]
        if leads:
            solved = {at: without_column(solved[at], row, leads[0]) for at in solved}
            solved[leads[0]] = row
    loose = [at for at in range(len(rows[0])) if at not in solved]
    return relation_by(solved, loose[0], len(rows[0])) if loose else None


def without_column(row, other, at):
    """A row from which another one is taken so often that its number at this place is 0."""
    return lightened([one * other[at] - two * row[at] for one, two in zip(row, other)])


def relation_by(solved, loose, many):
    """The relation of rows, by the places of their own, in which beside these just one loose place stands."""
    whole = 1
    for at in solved:
        whole = lcm(whole, solved[at][at])
    numbers = [0] * many
    numbers[loose] = whole
    for at in solved:
        numbers[at] = -solved[at][loose] * (whole // solved[at][at])
    return lightened(numbers)


def lightened(numbers):
    """The numbers by their greatest shared factor, the first that isn't 0 above 0."""
    shared = greatest_shared(numbers)
    if shared == 0:
        return numbers
    if [number for number in numbers if number != 0][0] < 0:
        shared = -shared
    return [number // shared for number in numbers]
