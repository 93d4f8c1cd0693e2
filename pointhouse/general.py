"""What holds in general: by all hands by which it can be drawn; told with rows, or with a hand that breaks it."""

from pointhouse.equations import comes_to_nought
from pointhouse.errors import NeverDone, NotPlain
from pointhouse.exacts import Exact
from pointhouse.hands import filled, rising
from pointhouse.makings import made_in_order
from pointhouse.reckoners import WholeReckoner
from pointhouse.steps import needed, sort_of
from pointhouse.unknowns import made_in_general, places_by_step, standing_hand, sum_reckoner, unknown_places


def rows_of(sketch, names):
    """Rows of the steps that these names need; NotPlain, NeverDone by the first that is refused."""
    numbers = needed(sketch, names)
    return rows_by(sketch, numbers, made_or_refused(sketch, numbers))


def ask(sketch, saying):
    """("holds", rows), by which the saying comes to nought, or ("fails", hand), the first that breaks it; refused as
    rows_of."""
    numbers = needed(sketch, saying[1:])
    made = made_or_refused(sketch, numbers)
    if comes_to_nought(sum_reckoner(sketch), saying[0], [made[name] for name in saying[1:]]):
        return "holds", rows_by(sketch, numbers, made)
    return "fails", breaking_hand(sketch, saying, numbers)


def made_or_refused(sketch, numbers):
    """What these steps make in general, by names; NotPlain, NeverDone by the first that is refused."""
    made, undone = made_in_general(sketch, numbers)
    if undone is None:
        return made
    if sketch[undone][0] == "cross":
        raise NotPlain(undone)
    raise NeverDone(undone)


def rows_by(sketch, numbers, made):
    """The rows of these steps: of a circle none is told."""
    steps = [(number, sketch[number]) for number in numbers]
    return tuple([(number, () if sort_of(step) == "circle" else made[step[1]]) for number, step in steps])


def breaking_hand(sketch, saying, numbers):
    """The first hand by which these steps, the saying's, can be done and the saying, which isn't so in general,
    doesn't hold."""
    parts = places_by_step(sketch)
    unknowns = unknown_places(sketch)
    standing = standing_hand(sketch)
    places = [at for number in numbers for at in parts[number] if at in unknowns]
    greatest = 0
    while True:
        for worths in rising(len(places), greatest):
            hand = filled(standing, places, worths)
            if is_broken(sketch, hand, saying, numbers):
                return tuple([Exact(number) for number in hand])
        greatest = greatest + 1


def is_broken(sketch, hand, saying, numbers):
    """Whether these steps can be done by a hand of whole numbers and the saying doesn't hold."""
    by = WholeReckoner()
    made, undone = made_in_order(by, sketch, hand, numbers)
    if undone is not None:
        return False
    return not comes_to_nought(by, saying[0], [made[name] for name in saying[1:]])
