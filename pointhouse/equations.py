"""What sayings say as equations: what comes to nought just where they hold, of things without quotients
(ratios.py), by any reckoner."""

from pointhouse.ratios import cross, dot, line_of_points, minor, off_line, square_of, way_from


def equations_of(by, word, things):
    """What all comes to nought where the saying of this word holds of these things."""
    if word == "same":
        return way_from(by, *things)
    if word == "row":
        return (off_row(by, *things),)
    if word == "along":
        way, other = ways_of(by, things)
        return (cross(by, way, other),)
    if word == "upright":
        way, other = ways_of(by, things)
        return (dot(by, way, other),)
    if word == "alike":
        return (off_length(by, *things),)
    if word == "angle":
        return (off_angle(by, *things),)
    if word == "ring":
        p, q, r, s = things
        return (off_angle(by, p, r, q, p, s, q),)
    p, thing = things
    return (off_line(by, p, thing) if len(thing) == 3 else off_circle(by, p, thing),)


def comes_to_nought(by, word, things):
    """Whether the saying of this word holds of these things."""
    return all([by.is_nought(one) for one in equations_of(by, word, things)])


def ways_of(by, things):
    """The ways from the first to the second and from the third to the fourth."""
    p, q, r, s = things
    return way_from(by, p, q), way_from(by, r, s)


def off_row(by, p, q, r):
    """The cross sum of the ways from P to Q and to R."""
    line = line_of_points(by, q, r)
    return by.whole(0) if line is None else off_line(by, p, line)


def off_length(by, p, q, r, s):
    """By how much the square of the way from P to Q is more than that from R to S."""
    way, other = ways_of(by, (p, q, r, s))
    bottom = by.multiplied(p[2], q[2])
    far = by.multiplied(r[2], s[2])
    return minor(by, square_of(by, way), square_of(by, other), by.multiplied(bottom, bottom), by.multiplied(far, far))


def off_angle(by, p, q, r, s, t, u):
    """By how much the angle at Q is off that at T: of both the cross sum is held against the . of the ways."""
    a, c = way_from(by, q, p), way_from(by, q, r)
    d, f = way_from(by, t, s), way_from(by, t, u)
    return minor(by, cross(by, a, c), cross(by, d, f), dot(by, a, c), dot(by, d, f))


def off_circle(by, p, circle):
    """By how much the square of the way from the circle's middle to P is more than the circle's."""
    _, _, _, square, bottom = circle
    way = way_from(by, circle, p)
    return minor(by, square_of(by, way), square, by.multiplied(p[2], p[2]), bottom)
