"""Points (x, y), lines (a, b, c) and circles (point, square) of exact numbers, and what is made of two of them."""

from pointhouse.errors import NoLine, TwoRoots
from pointhouse.exacts import Exact, go_together


def line_through(p, q):
    """The line through two points; NoLine where they are one."""
    refuse_two_roots(p + q)
    dx, dy = way_between(p, q)
    if dx.sign_of() == 0 and dy.sign_of() == 0:
        raise NoLine("through points that are one there is no line")
    return line_at(p, dy, negative(dx))


def line_along(p, line):
    """The line through a point along another line."""
    refuse_two_roots(p + line)
    a, b, _ = line
    return line_at(p, a, b)


def line_upright(p, line):
    """The line through a point upright to another line."""
    refuse_two_roots(p + line)
    a, b, _ = line
    return line_at(p, b, negative(a))


def lines_meet(one, other):
    """The point where two lines meet, None where they are along one another."""
    refuse_two_roots(one + other)
    a, b, c = one
    d, e, f = other
    bottom = cross_sum(a, b, d, e)
    if bottom.sign_of() == 0:
        return None
    return cross_sum(c, b, f, e).by(bottom), cross_sum(a, c, d, f).by(bottom)


def middle_of(p, q):
    """The point in the middle of two points."""
    refuse_two_roots(p + q)
    half = Exact(1, 2)
    return p[0].plus(q[0]).times(half), p[1].plus(q[1]).times(half)


def foot_of(p, line):
    """A point's foot on a line."""
    refuse_two_roots(p + line)
    return pushed(p, way_to(p, line))


def mirror_of(p, line):
    """A point's mirror at a line."""
    refuse_two_roots(p + line)
    way = way_to(p, line)
    return pushed(pushed(p, way), way)


def turned(p, about, many):
    """A point turned about another one by so many right angles, leftwards."""
    refuse_two_roots(p + about)
    return pushed(about, turned_way(way_between(about, p), many))


def crossings(line, circle):
    """The points where a line crosses a circle, those of lesser y ahead, of one y those of lesser x."""
    middle, square = circle
    refuse_roots(line + middle + (square,))
    a, b, _ = line
    way = way_to(middle, line)
    foot = pushed(middle, way)
    rest = square.minus(square_sum(way[0], way[1]))
    if rest.sign_of() < 0:
        return ()
    if rest.sign_of() == 0:
        return (foot,)
    # This way along the line goes upwards, a being 1 where it isn't 0, and on a level line rightwards.
    dx, dy = (b, a) if a.sign_of() == 0 else (negative(b), a)
    far = root_of(rest.by(square_sum(dx, dy)))
    dx, dy = dx.times(far), dy.times(far)
    return pushed(foot, (negative(dx), negative(dy))), pushed(foot, (dx, dy))


def refuse_two_roots(numbers):
    """TwoRoots where two of the numbers have roots that don't go together."""
    rooted = with_roots(numbers)
    for other in rooted[1:]:
        if not go_together(rooted[0], other):
            raise TwoRoots(root_in(rooted[0]), root_in(other))


def refuse_roots(numbers):
    """TwoRoots where any of the numbers has a root: of the first two, of one alone twice."""
    rooted = with_roots(numbers)
    if rooted:
        second = rooted[min(1, len(rooted) - 1)]
        raise TwoRoots(root_in(rooted[0]), root_in(second))


def with_roots(numbers):
    """Those of the numbers that have a root."""
    return [number for number in numbers if number.sign != 0]


def root_in(number):
    """(over, under) of a number."""
    return number.over, number.under


def root_of(number):
    """The root of a number that is above nought and has no root itself."""
    return Exact(0, sign=1, over=number.top, under=number.bottom)


def negative(number):
    """The number with its sign changed."""
    return Exact(0).minus(number)


def cross_sum(a, b, c, d):
    """The cross sum of the ways (a, b) and (c, d)."""
    return a.times(d).minus(b.times(c))


def square_sum(x, y):
    """The square of the way (x, y)."""
    return x.times(x).plus(y.times(y))


def way_between(p, q):
    """The way from one point to another."""
    return q[0].minus(p[0]), q[1].minus(p[1])


def turned_way(way, many):
    """A way turned by so many right angles, leftwards."""
    x, y = way
    for _ in range(many):
        x, y = negative(y), x
    return x, y


def pushed(p, way):
    """The point to which a way leads from p."""
    return p[0].plus(way[0]), p[1].plus(way[1])


def way_to(p, line):
    """The way from a point to its foot on a line."""
    a, b, c = line
    many = c.minus(worth_on(p, a, b)).by(square_sum(a, b))
    return a.times(many), b.times(many)


def worth_on(p, a, b):
    """What a x + b y comes to at a point."""
    return a.times(p[0]).plus(b.times(p[1]))


def line_at(p, a, b):
    """The line through a point whose first two numbers are as a to b, in its one form; not both are nought."""
    first = b if a.sign_of() == 0 else a
    return a.by(first), b.by(first), worth_on(p, a, b).by(first)
