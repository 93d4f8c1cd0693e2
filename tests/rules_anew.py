"""Papers by rules read a second way: of each rule, by its words in point 16, what it tells of steps and of sayings."""

import itertools

from tests.helper import SAYINGS, letters_of, sort_made

STEPS_BORNE = {"made": 1, "round": 1, "along": 1, "upright": 1, "mirror": 1, "halved": 2, "thales": 1}


def words_of(rows):
    return [row[0] for row in rows]


def ats(rows, thing):
    """The points that are told to be at this thing, None where a row tells something else."""
    if any(row[0] != "at" or row[2] != thing for row in rows):
        return None
    return [row[1] for row in rows]


def made(sketch, steps, rows):
    (step,), by = steps, letters_of(steps[0])
    word, n = step[0], step[1]
    if word == "line":
        return [("at", by["P"], n), ("at", by["Q"], n), ("unlike", by["P"], by["Q"])]
    if word == "circle":
        return [("at", by["P"], n), ("unlike", by["O"], by["P"])]
    if word in ("on", "round", "foot"):
        return [("at", n, step[-1])]
    if word in ("along", "upright"):
        return [("at", by["P"], n)]
    if word == "meet":
        return [("at", n, by["L"]), ("at", n, by["M"])]
    if word == "other":
        return [("at", n, by["L"]), ("at", n, by["C"])]
    if word == "middle":
        return [("row", by["P"], n, by["Q"]), ("alike", by["P"], n, n, by["Q"])]
    if word == "turn":
        p, o = by["P"], by["O"]
        return [("alike", o, p, o, n), ("row", p, o, n) if by["n"] == 2 else ("upright", o, p, o, n)]
    return []


def round(sketch, steps, rows):
    by = letters_of(steps[0])
    found = ats(rows, by["N"])
    return [("alike", by["O"], found[0], by["O"], by["P"])] if steps[0][0] == "circle" and found else []


def along(sketch, steps, rows):
    by = letters_of(steps[0])
    if steps[0][0] != "along" or len(rows) != 4:
        return []
    one, other = ats(rows[:2], by["N"]), ats(rows[2:], by["L"])
    return [("along", *one, *other)] if one and other else []


def upright(sketch, steps, rows):
    by = letters_of(steps[0])
    if steps[0][0] == "upright" and len(rows) == 4:
        one, other = ats(rows[:2], by["N"]), ats(rows[2:], by["L"])
        return [("upright", *one, *other)] if one and other else []
    if steps[0][0] in ("foot", "mirror") and len(rows) == 2:
        other = ats(rows, by["L"])
        return [("upright", by["P"], by["N"], *other)] if other else []
    return []


def mirror(sketch, steps, rows):
    by = letters_of(steps[0])
    if steps[0][0] != "mirror" or len(rows) != 1 or not ats(rows, by["L"]):
        return []
    (u,) = ats(rows, by["L"])
    return [("alike", u, by["P"], u, by["N"])]


def turned(sketch, steps, rows):
    (row,) = rows
    word, names = row[0], list(row[1:])
    if word in ("alike", "along", "upright"):
        p, q, r, s = names
        ways = [[*one, *other] for one in ([p, q], [q, p]) for other in ([r, s], [s, r])]
        ways += [way[2:] + way[:2] for way in ways]
    elif word == "angle":
        a, b, c, d, e, f = names
        ways = [[a, b, c, d, e, f], [d, e, f, a, b, c], [c, b, a, f, e, d], [f, e, d, c, b, a]]
    elif word in ("row", "ring", "same"):
        ways = itertools.permutations(names)
    elif word == "unlike":
        ways = [names, names[::-1]]
    else:
        ways = [names]
    return [(word, *way) for way in ways]


def at_one(sketch, rows, many, sort):
    if len(rows) != many or rows[0][0] != "at":
        return []
    thing = rows[0][2]
    kinds = {step[1]: sort_made(step) for step in sketch}
    return ats(rows, thing) or [] if kinds[thing] == sort else []


def rowed(sketch, steps, rows):
    found = at_one(sketch, rows, 3, "line")
    return [("row", *found)] if found else []


def ringed(sketch, steps, rows):
    found = at_one(sketch, rows, 4, "circle")
    return [("ring", *found)] if found else []


def linked(sketch, steps, rows):
    if words_of(rows) != ["alike", "alike"] or rows[0][3:] != rows[1][1:3]:
        return []
    return [("alike", *rows[0][1:3], *rows[1][3:])]


def chained(rows, first, second, told):
    if words_of(rows) != [first, second, "unlike"] or not rows[0][3:] == rows[1][1:3] == rows[2][1:]:
        return []
    return [(told, *rows[0][1:3], *rows[1][3:])]


def passed(sketch, steps, rows):
    return chained(rows, "along", "along", "along")


def squared(sketch, steps, rows):
    return chained(rows, "upright", "upright", "along")


def sided(sketch, steps, rows):
    return chained(rows, "upright", "along", "upright")


def bent(sketch, steps, rows):
    if words_of(rows) != ["row"]:
        return []
    _, p, q, r = rows[0]
    return [("along", p, q, p, r)]


def straight(sketch, steps, rows):
    if words_of(rows) != ["along"] or rows[0][1] != rows[0][3]:
        return []
    return [("row", rows[0][1], rows[0][2], rows[0][4])]


def halved(sketch, steps, rows):
    if rows or words_of(steps) != ["middle", "middle"] or steps[0][2] != steps[1][2]:
        return []
    (_, m, _, q), (_, n, _, r) = steps
    return [("along", m, n, q, r)]


def from_one(row, word):
    """(P, A, B) of a row `word P A P B`, or None."""
    if row[0] != word or row[1] != row[3]:
        return None
    return row[1], row[2], row[4]


def between(sketch, steps, rows):
    if len(rows) != 2:
        return []
    one, other = (from_one(row, "alike") for row in rows)
    return [("upright", one[0], other[0], *one[1:])] if one and other and one[1:] == other[1:] else []


def kept(sketch, steps, rows):
    if words_of(rows) != ["upright", "alike"]:
        return []
    _, p, q, a, b = rows[0]
    return [("alike", q, a, q, b)] if rows[1] == ("alike", p, a, p, b) else []


def legs(sketch, steps, rows):
    one = from_one(rows[0], "alike") if len(rows) == 1 else None
    if not one:
        return []
    p, a, b = one
    return [("angle", p, a, b, a, b, p)]


def sides(sketch, steps, rows):
    if words_of(rows) != ["along", "along"]:
        return []
    (_, a, b, d, e), (_, other, c, more, f) = rows
    return [("angle", a, b, c, d, e, f)] if (other, more) == (b, e) else []


def seen(sketch, steps, rows):
    if words_of(rows) != ["ring"]:
        return []
    _, p, q, r, s = rows[0]
    return [("angle", p, r, q, p, s, q)]


def rounded(sketch, steps, rows):
    if words_of(rows) != ["angle"]:
        return []
    _, p, r, q, other, s, more = rows[0]
    return [("ring", p, q, r, s)] if (other, more) == (p, q) else []


def carried(sketch, steps, rows):
    if words_of(rows) != ["angle", "angle", "unlike", "unlike"]:
        return []
    d, e, f = rows[0][4:]
    if rows[1][1:4] != (d, e, f) or rows[2][1:] != (d, e) or rows[3][1:] != (e, f):
        return []
    return [("angle", *rows[0][1:4], *rows[1][4:])]


def corners(sketch, steps, rows):
    if len(rows) != 2:
        return []
    one, other = (from_one(row, "upright") for row in rows)
    return [("ring", *one[1:], one[0], other[0])] if one and other and one[1:] == other[1:] else []


def thales(sketch, steps, rows):
    if steps[0][0] != "middle" or len(rows) != 1:
        return []
    _, m, a, b = steps[0]
    one = from_one(rows[0], "alike")
    return [("upright", one[2], a, one[2], b)] if one and one[:2] == (m, a) else []


RULES = dict(
    made=made, round=round, along=along, upright=upright, mirror=mirror, turned=turned, rowed=rowed, ringed=ringed,
    linked=linked, passed=passed, squared=squared, sided=sided, bent=bent, straight=straight, halved=halved,
    between=between, kept=kept, legs=legs, sides=sides, seen=seen, rounded=rounded, carried=carried, corners=corners,
    thales=thales,
)
# How many rows each rule wants, in each of its forms.
ROWS_WANTED = dict(
    made=(0,), round=(1,), along=(4,), upright=(2, 4), mirror=(1,), turned=(1,), rowed=(3,), ringed=(4,), linked=(2,),
    passed=(3,), squared=(3,), sided=(3,), bent=(1,), straight=(1,), halved=(0,), between=(2,), kept=(2,), legs=(1,),
    sides=(2,), seen=(1,), rounded=(1,), carried=(4,), corners=(2,), thales=(1,),
)


def told_anew(sketch, ahead, rule, places):
    """The sayings that a row by this rule and these places may tell behind rows of these sayings."""
    many = STEPS_BORNE.get(rule, 0)
    steps, rows = places[:many], places[many:]
    if len(steps) < many or len(rows) not in ROWS_WANTED[rule]:
        return []
    if not all(0 <= at < len(sketch) for at in steps) or not all(0 <= at < len(ahead) for at in rows):
        return []
    return list(RULES[rule](sketch, [sketch[at] for at in steps], [ahead[at] for at in rows]))


def paper_holds_anew(sketch, saying, thing):
    """Whether anything is a paper of the saying."""
    if type(thing) is not tuple or not thing:
        return False
    ahead = []
    for row in thing:
        if type(row) is not tuple or len(row) != 3 or type(row[1]) is not str or row[1] not in RULES:
            return False
        told, rule, places = row
        if type(places) is not tuple or any(type(at) is not int for at in places):
            return False
        if told not in told_anew(sketch, ahead, rule, places):
            return False
        ahead.append(told)
    return ahead[-1] == saying and is_saying_anew(sketch, saying)


def is_saying_anew(sketch, thing):
    kinds = {step[1]: sort_made(step) for step in sketch}
    if type(thing) is not tuple or not all(type(part) is str for part in thing) or not thing:
        return False
    sorts = [kinds.get(name) for name in thing[1:]]
    if thing[0] == "at":
        return len(sorts) == 2 and sorts[0] == "point" and sorts[1] in ("line", "circle")
    return thing[0] in SAYINGS and sorts == ["point"] * SAYINGS[thing[0]]


def made_rows(sketch):
    """All made rows: (saying, number of the step)."""
    return [(saying, number) for number, step in enumerate(sketch) for saying in made(sketch, [step], [])]


def least_rows(sketch):
    """By each saying that one row behind made ones tells, how many rows the shortest such paper has."""
    ahead = sorted({saying for saying, _ in made_rows(sketch)})
    least = {saying: 1 for saying in ahead}
    for rule, counts in ROWS_WANTED.items():
        if rule == "made":
            continue
        for steps in itertools.product(range(len(sketch)), repeat=STEPS_BORNE.get(rule, 0)):
            for many in counts:
                for places in itertools.product(range(len(ahead)), repeat=many):
                    rows = len(set(places)) + 1
                    for saying in told_anew(sketch, ahead, rule, (*steps, *places)):
                        least[saying] = min(rows, least.get(saying, rows))
    return least
