"""Sketches in general: numbers of a hand stand as unknowns, but those of the first two free ones."""

from pointhouse.drawing import numbers_by_step, numbers_for
from pointhouse.hands import filled
from pointhouse.makings import made_in_order
from pointhouse.reckoners import SumReckoner, WholeReckoner
from pointhouse.weights import weights_by_name

# Heavier things aren't asked of but where a step is refused.
MOST_WEIGHT = 6


def places_by_step(sketch):
    """For each step the places of its own numbers in a hand."""
    return numbers_by_step(sketch, tuple(range(numbers_for(sketch))))


def standing_numbers(sketch):
    """The numbers of the first two free ones, at (0, 0) and (1, 0), by their places in a hand."""
    parts = [part for step, part in zip(sketch, places_by_step(sketch)) if step[0] == "free"]
    standing = {}
    for x, (first, second) in enumerate(parts[:2]):
        standing[first] = x
        standing[second] = 0
    return standing


def unknown_places(sketch):
    """The places of the unknowns in a hand, in order."""
    standing = standing_numbers(sketch)
    return [at for at in range(numbers_for(sketch)) if at not in standing]


def standing_hand(sketch):
    """The hand, in whole numbers, in which all but the first two free ones is 0."""
    standing = standing_numbers(sketch)
    return [standing.get(at, 0) for at in range(numbers_for(sketch))]


def sum_reckoner(sketch):
    """The reckoner with sums of as many unknowns as the sketch has."""
    return SumReckoner(len(unknown_places(sketch)))


def made_in_general(sketch, numbers):
    """(made, undone) as makings.py tells them, by sums: what the steps of these numbers make in general, and the
    first of them that is a cross or by no hand can be done."""
    if are_heavy(sketch, numbers):
        made, undone = made_at_great_numbers(sketch, numbers)
        if undone is not None:
            return made, undone
    by = sum_reckoner(sketch)
    unknowns = [by.unknown(at) for at in range(by.unknowns)]
    hand = filled([by.whole(number) for number in standing_hand(sketch)], unknown_places(sketch), unknowns)
    return made_in_order(by, sketch, hand, numbers)


def are_heavy(sketch, numbers):
    """Whether one of these steps has no weight or weighs more than is asked of by sums."""
    weights = weights_by_name(sketch)
    each = [weights[sketch[number][1]] for number in numbers]
    return None in each or max(each, default=0) > MOST_WEIGHT


def made_at_great_numbers(sketch, numbers):
    """(made, undone) by a hand of great numbers. Sums of heavy things take too long where a step is refused anyway:
    what this hand can't do no hand can, since such numbers keep no equation but those that all numbers keep."""
    hand = standing_hand(sketch)
    great = 1
    for at in unknown_places(sketch):
        great = (great * 6364136223846793005 + 1442695040888963407) & (2 ** 64 - 1)
        hand[at] = great
    return made_in_order(WholeReckoner(), sketch, hand, numbers)
