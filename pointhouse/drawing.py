"""Drawings: what each step of a sketch makes by a hand, a tuple of numbers without roots."""

from pointhouse.errors import NoLine, TwoRoots
from pointhouse.exacts import Exact
from pointhouse.plane import crossings, foot_of, line_along, line_through, line_upright, lines_meet, middle_of
from pointhouse.plane import mirror_of, pushed, refuse_two_roots, square_sum, turned, turned_way, way_between
from pointhouse.steps import line_of_way, names_in

# How many numbers of the hand a step has.
OWN_NUMBERS = {"free": 2, "on": 1, "round": 1}


class Choices:
    """Which of two meets each cross takes, by its name."""

    def __init__(self, chosen):
        self.chosen = chosen

    def choose(self, name, meets):
        """The number, of these two meets, of the one that the cross of this name takes."""
        return self.chosen[name]


def numbers_for(sketch):
    """How many numbers a hand of the sketch has."""
    return sum([OWN_NUMBERS.get(step[0], 0) for step in sketch])


def is_hand(sketch, thing):
    """Whether anything is a hand of the sketch."""
    if not isinstance(thing, tuple) or len(thing) != numbers_for(sketch):
        return False
    return all([isinstance(number, Exact) and number.sign == 0 for number in thing])


def drawn(sketch, hand):
    """What each step makes by a hand, None where it can't be done."""
    made = drawn_by(sketch, hand, Choices(own_choices(sketch)))
    return tuple(made.values())


def own_choices(sketch):
    """The number of each cross's own step, by its name."""
    return {step[1]: step[4] for step in sketch if step[0] == "cross"}


def numbers_by_step(sketch, numbers):
    """For each step those of the numbers of a hand that are its own."""
    parts = []
    at = 0
    for step in sketch:
        many = OWN_NUMBERS.get(step[0], 0)
        parts.append(numbers[at:at + many])
        at = at + many
    return parts


def drawn_by(sketch, hand, choices):
    """What each step makes by a hand and by the Choices of its crosses, by names."""
    steps = {step[1]: step for step in sketch}
    made = {}
    for step, numbers in zip(sketch, numbers_by_step(sketch, hand)):
        things = [made[name] for name in names_in(step)]
        made[step[1]] = None if None in things else thing_made(steps, made, step, numbers, choices)
    return made


def thing_made(steps, made, step, numbers, choices):
    """What a step makes where all that it names is there, None where it can't be done."""
    word = step[0]
    try:
        if word == "free":
            return numbers
        if word == "on":
            return point_on(steps, made, step[2], numbers[0])
        if word == "round":
            circle = steps[step[2]]
            return point_round(made[circle[2]], made[circle[3]], numbers[0])
        if word == "turn":
            return turned(made[step[2]], made[step[3]], step[4])
        if word == "cross":
            return place_of_cross(step[1], crossings(made[step[2]], made[step[3]]), choices)
        return thing_of_things(word, [made[name] for name in names_in(step)])
    except (TwoRoots, NoLine):
        return None


def thing_of_things(word, things):
    """What a step makes of things alone."""
    if word == "meet":
        return lines_meet(*things)
    if word == "middle":
        return middle_of(*things)
    if word == "foot":
        return foot_of(*things)
    if word == "mirror":
        return mirror_of(*things)
    if word == "other":
        return other_point(*things)
    if word == "line":
        return line_through(*things)
    if word == "along":
        return line_along(*things)
    if word == "upright":
        return line_upright(*things)
    return circle_about(*things)


def point_on(steps, made, name, many):
    """The point to which a number leads on the line of this name."""
    first = made[steps[name][2]]
    line, turns = line_of_way(steps, name)
    x, y = turned_way(way_between(made[line[2]], made[line[3]]), turns)
    way = (x.times(many), y.times(many))
    refuse_two_roots(first + way)
    return pushed(first, way)


def point_round(middle, start, many):
    """The point to which a number leads round the circle about middle through start."""
    one = Exact(1)
    square = many.times(many)
    bottom = one.plus(square)
    ahead = one.minus(square).by(bottom)
    aside = many.plus(many).by(bottom)
    way = way_between(middle, start)
    left = turned_way(way, 1)
    x = ahead.times(way[0]).plus(aside.times(left[0]))
    y = ahead.times(way[1]).plus(aside.times(left[1]))
    return pushed(middle, (x, y))


def other_point(line, circle, p):
    """The other point of a line through p on a circle through p."""
    middle, square = circle
    refuse_two_roots(line + middle + (square,) + p)
    return mirror_of(p, line_upright(middle, line))


def place_of_cross(name, meets, choices):
    """Where a cross stands that has these meets, None where it has none."""
    if len(meets) < 2:
        return meets[0] if meets else None
    return meets[choices.choose(name, meets)]


def circle_about(middle, p):
    """The circle about a point through another one, None where they are one."""
    refuse_two_roots(middle + p)
    x, y = way_between(middle, p)
    square = square_sum(x, y)
    return None if square.sign_of() == 0 else (middle, square)
