"""Sketches: tuples of steps, each of its word, its own name, and the names and the number that it is made of."""

from pointhouse.wholes import is_whole

# What each word wants behind its own name: names of things of a sort, or a number of a kind.
WANTS = {
    "free": (),
    "on": ("line",),
    "round": ("circle",),
    "meet": ("line", "line"),
    "middle": ("point", "point"),
    "foot": ("point", "line"),
    "mirror": ("point", "line"),
    "turn": ("point", "point", "turns"),
    "other": ("line", "circle", "point"),
    "cross": ("line", "circle", "choice"),
    "line": ("point", "point"),
    "along": ("point", "line"),
    "upright": ("point", "line"),
    "circle": ("point", "point"),
}

NUMBERS = {"turns": (1, 2, 3), "choice": (0, 1)}

# The words that make no point.
MAKES = {"line": "line", "along": "line", "upright": "line", "circle": "circle"}

MOST_LETTERS = 8


def is_sketch(thing):
    """Whether anything is a sketch."""
    if not isinstance(thing, tuple):
        return False
    made = {}
    for step in thing:
        if not is_further(made, step):
            return False
        made[step[1]] = step
    return True


def hanging(sketch, name):
    """The numbers of the steps that hang on the one that makes this name, rising."""
    names = [name]
    numbers = []
    for number, step in enumerate(sketch):
        if any([part in names for part in names_in(step)]):
            names.append(step[1])
            numbers.append(number)
    return tuple(numbers)


def needed(sketch, names):
    """The numbers of the steps that make these names and of those on which they hang, rising."""
    wanted = list(names)
    numbers = []
    for number in reversed(range(len(sketch))):
        step = sketch[number]
        if step[1] in wanted:
            wanted.extend(names_in(step))
            numbers.append(number)
    return tuple(reversed(numbers))


def is_further(made, thing):
    """Whether anything is a further step behind those made, a dict of steps by their own names."""
    return is_step(thing) and fits_behind(made, thing)


def is_step(thing):
    """Whether anything has the form of a step, whatever is made ahead of it."""
    if not isinstance(thing, tuple) or len(thing) < 2 or not isinstance(thing[0], str):
        return False
    if thing[0] not in WANTS or not is_name(thing[1]):
        return False
    wants = WANTS[thing[0]]
    parts = thing[2:]
    return len(parts) == len(wants) and all([is_part(want, part) for want, part in zip(wants, parts)])


def is_part(want, thing):
    """Whether anything is a name or, where a number is wanted, such a number."""
    if want in NUMBERS:
        return is_whole(thing) and thing in NUMBERS[want]
    return is_name(thing)


def is_name(thing):
    """Whether anything is a name."""
    if not isinstance(thing, str) or len(thing) > MOST_LETTERS:
        return False
    return thing.isascii() and thing.isalpha() and thing.islower()


def fits_behind(made, step):
    """Whether what has the form of a step is one behind those made."""
    names = names_in(step)
    if step[1] in made or len(set(names)) < len(names):
        return False
    if not all([name in made for name in names]):
        return False
    if [sort_of(made[name]) for name in names] != [want for want in WANTS[step[0]] if want not in NUMBERS]:
        return False
    return step[0] != "other" or has_own_point(made, step)


def has_own_point(made, step):
    """Whether the line and the circle of an `other` are made through the point that it names."""
    line, circle, point = step[2:]
    return point in points_on_line(made[line]) and made[circle][3] == point


def line_of_way(steps, name):
    """The step of the `line` whose way a line takes, and by how many right angles it is turned, leftwards."""
    step = steps[name]
    turns = 0
    while step[0] != "line":
        if step[0] == "upright":
            turns = turns + 1
        step = steps[step[3]]
    return step, turns


def points_on_line(step):
    """The names of the points through which a line's step leads it."""
    return step[2:] if step[0] == "line" else step[2:3]


def names_in(step):
    """The names of which a step is made, in order."""
    return [part for part in step[2:] if isinstance(part, str)]


def sort_of(step):
    """The sort of what a step makes."""
    return MAKES.get(step[0], "point")


def sorts_by_name(sketch):
    """The sorts of what the steps make, by names."""
    return {step[1]: sort_of(step) for step in sketch}
