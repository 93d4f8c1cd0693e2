"""The checker of rows: whoever wrote them, they are held against what the steps make in general."""

from pointhouse.equations import comes_to_nought
from pointhouse.ratios import is_no_way, minor
from pointhouse.steps import needed, sort_of
from pointhouse.sums import is_sum
from pointhouse.unknowns import made_in_general, sum_reckoner
from pointhouse.wholes import is_whole


def rows_hold(sketch, saying, thing):
    """Whether anything is rows of the saying's steps by which it comes to nought."""
    numbers = needed(sketch, saying[1:])
    by = sum_reckoner(sketch)
    if not are_rows_by_form(by, sketch, numbers, thing):
        return False
    made, undone = made_in_general(sketch, numbers)
    if undone is not None:
        return False
    # Rows are right just where they are those that are made here but for a factor, so the saying,
    # too, comes to nought by both or by neither.
    if not comes_to_nought(by, saying[0], [made[name] for name in saying[1:]]):
        return False
    return all([is_row_of(by, sketch[number], made, row) for number, row in thing])


def are_rows_by_form(by, sketch, numbers, thing):
    """Whether anything is pairs of just these numbers, in order, and of rows right by their sorts."""
    if not isinstance(thing, tuple) or len(thing) != len(numbers):
        return False
    return all([is_pair_by_form(by, sketch, number, pair) for number, pair in zip(numbers, thing)])


def is_pair_by_form(by, sketch, number, thing):
    """Whether anything is a pair of this number and a row right by the step's sort."""
    if not isinstance(thing, tuple) or len(thing) != 2 or not is_whole(thing[0]) or thing[0] != number:
        return False
    row = thing[1]
    if sort_of(sketch[number]) == "circle":
        return row == ()
    return isinstance(row, tuple) and len(row) == 3 and all([is_sum(by.unknowns, part) for part in row])


def is_row_of(by, step, made, row):
    """Whether a row, right by its form, is of what the step makes."""
    sort = sort_of(step)
    if sort == "circle":
        return True
    if sort == "line":
        return not is_no_way(by, row) and are_alike(by, row, made[step[1]], ((0, 1), (0, 2), (1, 2)))
    return not by.is_nought(row[2]) and are_alike(by, row, made[step[1]], ((0, 2), (1, 2)))


def are_alike(by, row, other, pairs):
    """Whether in one row the sums at each pair of places are to one another as in another row."""
    return all([by.is_nought(minor(by, row[at], row[to], other[at], other[to])) for at, to in pairs])
