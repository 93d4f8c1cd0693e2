"""The text of a sketch: a line for each step, its parts with a blank between two."""

from pointhouse.errors import NoText
from pointhouse.steps import is_further

# No step has a greater number.
FIGURES = {"0": 0, "1": 1, "2": 2, "3": 3}


def show_sketch(sketch):
    """The text of a sketch."""
    return "\n".join([show_step(step) for step in sketch])


def read_sketch(text):
    """The sketch of which this is the text; else, of anything, NoText with the number of the first wrong line."""
    if not isinstance(text, str):
        raise NoText(0)
    made = {}
    for row, line in enumerate(lines_in(text)):
        step = step_in(line.split(" "))
        if not is_further(made, step):
            raise NoText(row)
        made[step[1]] = step
    return tuple(made.values())


def show_step(step):
    """The line of a step."""
    return " ".join([str(part) for part in step])


def lines_in(text):
    """The lines of a text, none where it has no signs."""
    return text.split("\n") if text else []


def step_in(words):
    """What the words of a line would be as a step: its parts, those that are a figure as numbers."""
    return tuple([FIGURES.get(word, word) for word in words])
