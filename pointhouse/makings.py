"""What steps make of points, lines and circles without quotients (ratios.py), by any reckoner."""

from pointhouse.drawing import numbers_by_step
from pointhouse.ratios import circle_about_point, foot_on_line, line_of_points, line_on_way, meet_of_lines
from pointhouse.ratios import middle_between, mirror_at_line, mirror_at_point, moved, stretched, turned_left, way_from
from pointhouse.steps import line_of_way, names_in


def made_in_order(by, sketch, hand, numbers):
    """(made, undone): what the steps of these numbers make, by names, up to the first that is a cross or
    can't be done, and this one's number, None where all are made."""
    steps = {step[1]: step for step in sketch}
    parts = numbers_by_step(sketch, hand)
    made = {}
    for number in numbers:
        step = sketch[number]
        thing = made_by(by, steps, made, step, parts[number])
        if thing is None:
            return made, number
        made[step[1]] = thing
    return made, None


def made_by(by, steps, made, step, numbers):
    """What a step makes by its own numbers of the hand, None of a cross and where it can't be done."""
    word = step[0]
    if word == "free":
        return numbers[0], numbers[1], by.whole(1)
    if word == "on":
        return put_on_line(by, steps, made, step[2], numbers[0])
    if word == "round":
        circle = steps[step[2]]
        return put_round(by, made[circle[2]], made[circle[3]], numbers[0])
    if word in ("along", "upright"):
        return line_on_way(by, made[step[2]], way_of_line(by, steps, made, step[1]))
    if word == "turn":
        return turned_about(by, made[step[2]], made[step[3]], step[4])
    if word == "cross":
        return None
    return made_of_things(by, word, [made[name] for name in names_in(step)])


def made_of_things(by, word, things):
    """What a step makes of things alone."""
    if word == "meet":
        return meet_of_lines(by, *things)
    if word == "middle":
        return middle_between(by, *things)
    if word == "foot":
        return foot_on_line(by, *things)
    if word == "mirror":
        return mirror_at_line(by, *things)
    if word == "other":
        line, circle, p = things
        return mirror_at_point(by, p, foot_on_line(by, circle[:3], line))
    if word == "line":
        return line_of_points(by, *things)
    return circle_about_point(by, *things)


def way_of_line(by, steps, made, name):
    """The way of a line, still to be divided by W of both points of the `line` whose way it takes."""
    line, turns = line_of_way(steps, name)
    return turned_left(by, way_from(by, made[line[2]], made[line[3]]), turns)


def put_on_line(by, steps, made, name, many):
    """The point to which a number leads on the line of this name."""
    first = made[steps[name][2]]
    line, _ = line_of_way(steps, name)
    way = stretched(by, way_of_line(by, steps, made, name), many)
    far = made[line[3]][2]
    if line[1] == name:
        # The line's first point is the way's, too: its W stands in the way's bottom already.
        return moved(by, first, way, far)
    return moved(by, first, stretched(by, way, first[2]), by.multiplied(made[line[2]][2], far))


def put_round(by, middle, p, many):
    """The point to which a number leads round the circle about middle through p."""
    one = by.whole(1)
    square = by.multiplied(many, many)
    way = way_from(by, middle, p)
    ahead = stretched(by, way, by.lessened(one, square))
    aside = stretched(by, turned_left(by, way, 1), by.added(many, many))
    both = (by.added(ahead[0], aside[0]), by.added(ahead[1], aside[1]))
    return moved(by, middle, both, by.multiplied(p[2], by.added(one, square)))


def turned_about(by, p, middle, turns):
    """A point turned about another one by so many right angles, leftwards."""
    return moved(by, middle, turned_left(by, way_from(by, middle, p), turns), p[2])
