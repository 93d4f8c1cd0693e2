"""Lessons: a sketch, and wishes that a making behind it is to keep in general."""

from pointhouse.errors import NeverDone, NotPlain
from pointhouse.general import ask, rows_of
from pointhouse.sayings import fits_place, is_saying_by_form
from pointhouse.steps import is_further, is_sketch, sorts_by_name

MOST_WISHES = 4


def is_lesson(thing):
    """Whether anything is a lesson."""
    if not isinstance(thing, tuple) or len(thing) != 2 or not is_sketch(thing[0]):
        return False
    wishes = thing[1]
    if not isinstance(wishes, tuple) or not 1 <= len(wishes) <= MOST_WISHES:
        return False
    if not all([is_saying_by_form(wish) for wish in wishes]):
        return False
    sorts = sorts_by_name(thing[0])
    return not any([name in sorts for name in misfits(sorts, wishes)])


def judged(lesson, steps):
    """What is so first of a making: a wrong step, a name that it lacks, a wish that is refused, one that fails, or that
    all are held."""
    sketch, wishes = lesson
    wrong = first_wrong(sketch, steps)
    if wrong is not None:
        return "wrong", wrong
    whole = sketch + steps
    lacking = misfits(sorts_by_name(whole), wishes)
    if lacking:
        return "lacks", lacking[0]
    refused = first_refused(whole, wishes)
    return refused if refused is not None else judged_by_wishes(whole, wishes)


def misfits(sorts, wishes):
    """The names of the wishes, in order, at which no thing of the sort wanted is."""
    return [
        name
        for wish in wishes
        for at, name in enumerate(wish[1:])
        if not fits_place(wish[0], at, sorts.get(name))
    ]


def first_wrong(sketch, steps):
    """The number of the first of these that is no further step behind the sketch and those ahead of it, or None."""
    made = {step[1]: step for step in sketch}
    for number, step in enumerate(steps):
        if not is_further(made, step):
            return number
        made[step[1]] = step
    return None


def first_refused(sketch, wishes):
    """How the first wish that is refused in general is refused, or None."""
    for wish in wishes:
        try:
            rows_of(sketch, wish[1:])
        except NotPlain as plain:
            return "plain", plain.number
        except NeverDone as never:
            return "never", never.number
    return None


def judged_by_wishes(sketch, wishes):
    """The first wish that fails, or the rows of all."""
    papers = []
    for number, wish in enumerate(wishes):
        word, told = ask(sketch, wish)
        if word == "fails":
            return word, number, told
        papers.append(told)
    return "held", tuple(papers)
