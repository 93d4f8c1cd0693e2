"""Weights of the things of a sketch and of what is said of them."""

from pointhouse.steps import line_of_way, names_in, sort_of

# How often the things that a step names weigh in it. The circle of an `other` weighs what its O and P do.
TIMES = {
    "round": (1,),
    "meet": (1, 1),
    "middle": (1, 1),
    "foot": (1, 2),
    "mirror": (1, 2),
    "turn": (1, 1),
    "other": (2, 1, 0),
    "line": (1, 1),
    "circle": (1, 1),
}

# What a step weighs by itself.
OWN = {"free": 1, "on": 1, "round": 2}


def weight_of(sketch, name):
    """The weight of a thing; None of a cross and of what hangs on one."""
    return weights_by_name(sketch)[name]


def weight_in(sketch, saying):
    """The weight of a saying; None where one of its things has None."""
    weights = weights_by_name(sketch)
    each = [weights[name] for name in saying[1:]]
    if None in each:
        return None
    if saying[0] == "angle":
        return sum(each) + each[1] + each[4]
    return 2 * sum(each) if is_of_squares(sketch, saying) else sum(each)


def is_of_squares(sketch, saying):
    """Whether the weights of a saying's names are taken twice."""
    if saying[0] != "at":
        return saying[0] in ("same", "alike", "ring")
    return any([step[1] == saying[2] and sort_of(step) == "circle" for step in sketch])


def weights_by_name(sketch):
    """The weight, or None, of each thing by its name."""
    frees = [step[1] for step in sketch if step[0] == "free"]
    steps = {}
    weights = {}
    for step in sketch:
        name = step[1]
        steps[name] = step
        weights[name] = 0 if name in frees[:2] else weight_behind(steps, weights, step)
    return weights


def weight_behind(steps, weights, step):
    """The weight of a step's thing by the weights of the things ahead of it."""
    word = step[0]
    names = names_in(step)
    # None spreads by the names, not by what is weighed: a way may weigh although its line hangs on a cross.
    if word == "cross" or None in [weights[name] for name in names]:
        return None
    own = OWN.get(word, 0)
    if word == "on":
        first = steps[names[0]][2]
        return own + weights[first] + weight_of_way(steps, weights, names[0])
    if word in ("along", "upright"):
        return weights[names[0]] + weight_of_way(steps, weights, names[1])
    return own + sum([many * weights[name] for many, name in zip(TIMES.get(word, ()), names)])


def weight_of_way(steps, weights, name):
    """The weight of the way of a line."""
    line, _ = line_of_way(steps, name)
    # What is through two points weighs what they do, and so does its way.
    return weights[line[1]]
