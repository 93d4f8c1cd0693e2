"""Conditions: by which hand of noughts and ones a step can't be done though all on which it hangs can."""

from pointhouse.drawing import numbers_for
from pointhouse.exacts import Exact
from pointhouse.hands import filled, up_to
from pointhouse.makings import made_in_order
from pointhouse.reckoners import WholeReckoner
from pointhouse.steps import needed
from pointhouse.unknowns import places_by_step

# The words of the steps that some hands can't do where all else is there.
CONDITIONED = ("line", "circle", "meet")


def conditions(sketch):
    """(number, hand), rising by number, of each line, circle, meet that has such a hand: its first one."""
    found = []
    for number, step in enumerate(sketch):
        hand = first_hand_against(sketch, number) if step[0] in CONDITIONED else None
        if hand is not None:
            found.append((number, hand))
    return tuple(found)


def first_hand_against(sketch, number):
    """The first hand of noughts and ones by which just this one of the steps that it needs can't be done, or None."""
    numbers = needed(sketch, (sketch[number][1],))
    parts = places_by_step(sketch)
    places = [at for one in numbers for at in parts[one]]
    for worths in up_to(len(places), 1):
        hand = filled([0] * numbers_for(sketch), places, worths)
        _, undone = made_in_order(WholeReckoner(), sketch, hand, numbers)
        if undone == number:
            return tuple([Exact(worth) for worth in hand])
    return None
