"""Deeds of a House by their form, whatever it keeps."""

from pointhouse.exacts import Exact
from pointhouse.lessons import is_lesson
from pointhouse.sayings import is_saying_by_form
from pointhouse.steps import is_name, is_sketch, is_step

# What stands behind each word.
PARTS = {
    "sketch": ("name", "sketch", "numbers"),
    "lesson": ("name", "sketch", "wishes"),
    "drop": ("name",),
    "step": ("name", "step", "numbers"),
    "call": ("name", "name", "name"),
    "back": ("name",),
    "out": ("name", "name"),
    "move": ("name", "numbers"),
    "claim": ("name", "saying"),
    "make": ("name", "steps"),
    "all": ("deeds",),
}

MOST_ALLS = 4


def is_deed(thing, alls=MOST_ALLS):
    """Whether anything is a deed, of at most so many alls within one another."""
    if not isinstance(thing, tuple) or len(thing) < 1 or not isinstance(thing[0], str) or thing[0] not in PARTS:
        return False
    kinds = PARTS[thing[0]]
    if len(thing) != 1 + len(kinds):
        return False
    if thing[0] == "all":
        return alls > 0 and isinstance(thing[1], tuple) and all([is_deed(deed, alls - 1) for deed in thing[1]])
    if thing[0] == "lesson":
        return is_name(thing[1]) and is_lesson(thing[2:])
    return all([is_part_of_deed(kind, part) for kind, part in zip(kinds, thing[1:])])


def is_part_of_deed(kind, thing):
    """Whether anything is such a part."""
    if kind == "name":
        return is_name(thing)
    if kind == "sketch":
        return is_sketch(thing)
    if kind == "step":
        return is_step(thing)
    if kind == "saying":
        return is_saying_by_form(thing)
    if kind == "steps":
        return isinstance(thing, tuple) and all([is_step(part) for part in thing])
    return isinstance(thing, tuple) and all([isinstance(number, Exact) and number.sign == 0 for number in thing])
