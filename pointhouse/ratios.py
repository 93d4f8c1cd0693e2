"""Points (X, Y, W) at X by W, Y by W, lines (A, B, C) of the points whose A x + B y is C, and circles
(X, Y, W, S, V) about (X, Y, W), whose radius has the square S by W W V: by any reckoner, without a quotient."""


def way_from(by, p, q):
    """The way from one point to another, x and y, both still to be divided by W of p times W of q."""
    return minor(by, q[0], p[0], q[2], p[2]), minor(by, q[1], p[1], q[2], p[2])


def minor(by, a, b, c, d):
    """a times d less b times c: of two ways (a, b) and (c, d) their cross sum."""
    return by.lessened(by.multiplied(a, d), by.multiplied(b, c))


def dot(by, way, other):
    """The . of two ways."""
    return by.added(by.multiplied(way[0], other[0]), by.multiplied(way[1], other[1]))


def cross(by, way, other):
    """The cross sum of two ways."""
    return minor(by, way[0], way[1], other[0], other[1])


def stretched(by, way, many):
    """The way taken so many times."""
    return by.multiplied(way[0], many), by.multiplied(way[1], many)


def turned_left(by, way, turns):
    """The way turned by so many right angles, leftwards."""
    x, y = way
    for _ in range(turns):
        x, y = by.lessened(by.whole(0), y), x
    return x, y


def is_no_way(by, way):
    """Whether both numbers are nought."""
    return by.is_nought(way[0]) and by.is_nought(way[1])


def moved(by, p, way, many):
    """The point to which a way leads from p, the way still to be divided by W of p times many."""
    x = by.added(by.multiplied(p[0], many), way[0])
    y = by.added(by.multiplied(p[1], many), way[1])
    return x, y, by.multiplied(p[2], many)


def line_of_points(by, p, q):
    """The line through two points, None where they are one."""
    a = minor(by, p[1], q[1], p[2], q[2])
    b = minor(by, p[2], q[2], p[0], q[0])
    return None if is_no_way(by, (a, b)) else (a, b, minor(by, p[1], q[1], p[0], q[0]))


def line_on_way(by, p, way):
    """The line through a point along a way."""
    x, y = way
    b = by.lessened(by.whole(0), by.multiplied(x, p[2]))
    return by.multiplied(y, p[2]), b, minor(by, y, x, p[1], p[0])


def meet_of_lines(by, one, other):
    """The point where two lines meet, None where they are along one another."""
    a, b, c = one
    d, e, f = other
    bottom = minor(by, a, b, d, e)
    return None if by.is_nought(bottom) else (minor(by, c, b, f, e), minor(by, a, c, d, f), bottom)


def middle_between(by, p, q):
    """The point in the middle of two points."""
    return moved(by, p, way_from(by, p, q), by.added(q[2], q[2]))


def foot_on_line(by, p, line):
    """A point's foot on a line."""
    return moved(by, p, way_to_line(by, p, line), square_of(by, line))


def mirror_at_line(by, p, line):
    """A point's mirror at a line."""
    way = way_to_line(by, p, line)
    return moved(by, p, (by.added(way[0], way[0]), by.added(way[1], way[1])), square_of(by, line))


def mirror_at_point(by, p, middle):
    """A point's mirror at another one."""
    way = way_from(by, p, middle)
    return moved(by, p, (by.added(way[0], way[0]), by.added(way[1], way[1])), middle[2])


def circle_about_point(by, middle, p):
    """The circle about a point through another one, None where they are one."""
    way = way_from(by, middle, p)
    return None if is_no_way(by, way) else (*middle, square_of(by, way), by.multiplied(p[2], p[2]))


def way_to_line(by, p, line):
    """The way from a point to its foot on a line, still to be divided by its W times the line's square."""
    return stretched(by, line[:2], off_line(by, p, line))


def off_line(by, p, line):
    """What C is more than A x + B y at a point, W times: nought just of the line's points."""
    return by.lessened(by.multiplied(line[2], p[2]), dot(by, line, p))


def square_of(by, way):
    """The . of a way, or of the first two numbers of a line, by itself."""
    return dot(by, way, way)
