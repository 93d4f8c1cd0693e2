"""Sayings: tuples of a word and of names, and whether they hold in a drawing."""

from pointhouse.drawing import drawn
from pointhouse.equations import comes_to_nought
from pointhouse.exacts import Exact
from pointhouse.plane import refuse_two_roots
from pointhouse.reckoners import ExactReckoner
from pointhouse.steps import is_name, sorts_by_name

# How many points a saying names; of at a line or a circle follows.
POINTS = {"same": 2, "row": 3, "along": 4, "upright": 4, "alike": 4, "angle": 6, "ring": 4, "at": 1}


def is_saying(sketch, thing):
    """Whether anything is a saying of the sketch."""
    if not is_saying_by_form(thing):
        return False
    sorts = sorts_by_name(sketch)
    return all([fits_place(thing[0], at, sorts.get(name)) for at, name in enumerate(thing[1:])])


def is_so(sketch, hand, saying):
    """Whether a saying holds in the drawing by a hand, None where one of its things isn't there."""
    return is_so_by(sketch, drawn(sketch, hand), saying)


def is_so_by(sketch, things, saying):
    """Whether a saying holds in a drawing, None where one of its things isn't there."""
    by_name = {step[1]: thing for step, thing in zip(sketch, things)}
    named = [by_name[name] for name in saying[1:]]
    if None in named:
        return None
    numbers = [number for thing in named for number in numbers_of_thing(thing)]
    refuse_two_roots(numbers)
    return comes_to_nought(ExactReckoner(), saying[0], [without_quotients(thing) for thing in named])


def is_saying_by_form(thing):
    """Whether anything is a word and as many names as it wants, of whatever sketch."""
    if not isinstance(thing, tuple) or len(thing) < 1 or not isinstance(thing[0], str):
        return False
    if thing[0] not in POINTS or len(thing) != 1 + names_wanted(thing[0]):
        return False
    return all([is_name(name) for name in thing[1:]])


def names_wanted(word):
    """How many names a saying of this word has."""
    return POINTS[word] + 1 if word == "at" else POINTS[word]


def fits_place(word, at, sort):
    """Whether a thing of this sort, or None, may stand at this place behind the word."""
    return sort == "point" if at < POINTS[word] else sort in ("line", "circle")


def numbers_of_thing(thing):
    """The numbers of a point, a line or a circle, in order."""
    if isinstance(thing[0], tuple):
        return thing[0] + (thing[1],)
    return thing


def without_quotients(thing):
    """A point, a line or a circle as ratios.py has them."""
    one = Exact(1)
    if isinstance(thing[0], tuple):
        (x, y), square = thing
        return x, y, one, square, one
    return thing if len(thing) == 3 else (*thing, one)
