"""Ways that points run through, as one number of a hand goes over all numbers."""

from pointhouse.drawing import drawn, numbers_by_step
from pointhouse.errors import NeverDone
from pointhouse.exacts import Exact
from pointhouse.hands import filled
from pointhouse.makings import made_by
from pointhouse.plane import line_through, worth_on
from pointhouse.powers import PowerReckoner, residue, without_factor
from pointhouse.relations import relation
from pointhouse.steps import needed
from pointhouse.unknowns import places_by_step


def way_of(sketch, hand, going, name):
    """What the point of this name runs through as the number of the going one goes over all numbers."""
    power = greatest_power_of(sketch, hand, going, name)
    if power > 2:
        return "more", power
    samples = samples_of(sketch, hand, going, name, 2 * power + 1)
    if power == 0:
        return "rest", samples[0][1]
    line = line_of_samples(samples)
    if power == 1:
        return "line", line, far_point(samples, power)
    return ("fold", line) if are_on(samples, line) else ("curve", curve_of(samples), far_point(samples, power))


def going_at(sketch, hand, going, name, point):
    """The number of the going one by which the point of this name is here; None where there is none, and of ways
    at rest, folds and more."""
    power = greatest_power_of(sketch, hand, going, name)
    if power not in (1, 2):
        return None
    samples = samples_of(sketch, hand, going, name, 2 * power + 1)
    if power == 2 and are_on(samples, line_of_samples(samples)):
        return None
    x, y, w = sums_of(samples, power)
    # What is asked for are powers of one number, from 0 on, by which both rows come to nought.
    powers = relation([row_of_sums(x, w, point[0]), row_of_sums(y, w, point[1])])
    if powers is None or powers[0] == 0 or power == 2 and powers[1] ** 2 != powers[0] * powers[2]:
        return None
    return quotient(powers[1], powers[0])


def greatest_power_of(sketch, hand, going, name):
    """The greatest power of the going one's number in the sums of the point's place, which share no factor;
    NeverDone where one of the steps can be done by no number."""
    by = PowerReckoner()
    steps = {step[1]: step for step in sketch}
    parts = numbers_by_step(sketch, [by.whole(residue(number)) for number in hand])
    made = {}
    for number in needed(sketch, (name,)):
        step = sketch[number]
        own = [(0, 1)] if step[1] == going else parts[number]
        thing = made_by(by, steps, made, step, own)
        if thing is None:
            raise NeverDone(number)
        # Points and lines are the same by all multiples of their sums.
        made[step[1]] = without_factor(thing) if len(thing) == 3 else thing
    return max([len(one) for one in made[name]]) - 1


def samples_of(sketch, hand, going, name, many):
    """(t, point) for so many whole numbers t of the going one by which the point can be drawn."""
    names = [step[1] for step in sketch]
    place = places_by_step(sketch)[names.index(going)]
    samples = []
    number = 0
    while len(samples) < many:
        there = drawn(sketch, tuple(filled(hand, place, (Exact(number),))))[names.index(name)]
        if there is not None:
            samples.append((number, there))
        number = -number if number > 0 else 1 - number
    return samples


def line_of_samples(samples):
    """The line through the first two places that are not one."""
    first = samples[0][1]
    second = [there for _, there in samples if there != first][0]
    return line_through(first, second)


def are_on(samples, line):
    """Whether all places are on a line."""
    a, b, c = line
    return all([worth_on(there, a, b) == c for _, there in samples])


def far_point(samples, power):
    """The point that the number comes to far out, None where there is none."""
    x, y, w = [one[power] for one in sums_of(samples, power)]
    return None if w == 0 else (quotient(x, w), quotient(y, w))


def sums_of(samples, power):
    """(X, Y, W), lists of whole numbers of powers from 0 on, of the one way up to this power with these places."""
    rows = []
    for number, (x, y) in samples:
        powers = [1, number, number * number][:power + 1]
        nothing = [0] * len(powers)
        rows.append([x.bottom * one for one in powers] + nothing + [-x.top * one for one in powers])
        rows.append(nothing + [y.bottom * one for one in powers] + [-y.top * one for one in powers])
    numbers = relation(rows)
    many = power + 1
    return numbers[:many], numbers[many:2 * many], numbers[2 * many:]


def curve_of(samples):
    """The six whole numbers of the curve through five places."""
    rows = []
    for _, (x, y) in samples:
        p, q, w = x.top * y.bottom, y.top * x.bottom, x.bottom * y.bottom
        rows.append([p * p, p * q, q * q, p * w, q * w, w * w])
    return tuple(relation(rows))


def row_of_sums(one, bottom, number):
    """What one sum by another one is off a number, cleared, by powers."""
    return [number.bottom * many - number.top * low for many, low in zip(one, bottom)]


def quotient(top, bottom):
    """The number top by bottom."""
    return Exact(top).by(Exact(bottom))
