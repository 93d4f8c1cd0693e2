"""Ways that points run through, as one number of a hand goes over all numbers."""

from pointhouse.drawing import numbers_by_step
from pointhouse.errors import NeverDone
from pointhouse.exacts import Exact
from pointhouse.makings import made_by
from pointhouse.powers import PowerReckoner, product_of, sum_of_number, without_factor
from pointhouse.relations import relation
from pointhouse.steps import needed


def way_of(sketch, hand, going, name):
    """What the point of this name runs through as the number of the going one goes over all numbers."""
    sums = place_of(sketch, hand, going, name)
    rows = rows_by_power(sums)
    power = len(rows) - 1
    if power > 2:
        return "more", power
    if power == 0:
        return "rest", point_of(rows[0])
    line = relation(rows)
    if power == 1:
        return "line", line_of(line), point_of(rows[power])
    return ("curve", curve_of(sums), point_of(rows[power])) if line is None else ("fold", line_of(line))


def going_at(sketch, hand, going, name, point):
    """The number of the going one by which the point of this name is here; None where there is none, and of ways
    at rest, folds and more."""
    rows = rows_by_power(place_of(sketch, hand, going, name))
    power = len(rows) - 1
    if power not in (1, 2) or power == 2 and relation(rows) is not None:
        return None
    # What is asked for are powers of one number, from 0 on, by which both rows come to nought.
    powers = relation([[off_number(row[at], row[2], point[at]) for row in rows] for at in (0, 1)])
    if powers is None or powers[0] == 0 or power == 2 and powers[1] ** 2 != powers[0] * powers[2]:
        return None
    return quotient(powers[1], powers[0])


def place_of(sketch, hand, going, name):
    """(X, Y, W), sharing no factor, of the point's place, each the whole numbers of the powers of the going one's
    number; NeverDone where one of the steps can be done by no number."""
    by = PowerReckoner()
    steps = {step[1]: step for step in sketch}
    parts = numbers_by_step(sketch, [sum_of_number(number) for number in hand])
    made = {}
    for number in needed(sketch, (name,)):
        step = sketch[number]
        own = [((0, 1), 1)] if step[1] == going else parts[number]
        thing = made_by(by, steps, made, step, own)
        if thing is None:
            raise NeverDone(number)
        # Points and lines are the same by all multiples of their sums.
        made[step[1]] = without_factor(thing) if len(thing) == 3 else thing
    return [numbers for numbers, _ in made[name]]


def rows_by_power(sums):
    """For each power, from 0 to the greatest, its numbers in all the sums."""
    size = max([len(numbers) for numbers in sums])
    return [[numbers[at] if at < len(numbers) else 0 for numbers in sums] for at in range(size)]


def point_of(row):
    """The point at X by W, Y by W; None where W is 0."""
    x, y, w = row
    return None if w == 0 else (quotient(x, w), quotient(y, w))


def line_of(numbers):
    """The line, in its one form, of the points whose A x + B y + C is 0."""
    a, b, c = numbers
    first = b if a == 0 else a
    return quotient(a, first), quotient(b, first), quotient(-c, first)


def curve_of(sums):
    """The six whole numbers of the curve on which all places lie."""
    x, y, w = sums
    pairs = ((x, x), (x, y), (y, y), (x, w), (y, w), (w, w))
    return tuple(relation(rows_by_power([product_of(one, other) for one, other in pairs])))


def off_number(many, low, number):
    """How much many is above low times a number, cleared of the number's bottom."""
    return number.bottom * many - number.top * low


def quotient(top, bottom):
    """The number top by bottom."""
    return Exact(top).by(Exact(bottom))
