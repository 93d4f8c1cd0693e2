"""Findings: what is told of a sketch with what shows it, whoever wrote them; it is read, and looked at anew."""

from pointhouse.drawing import is_hand
from pointhouse.errors import NoText, TwoRoots
from pointhouse.generalchecks import rows_hold
from pointhouse.rulechecks import paper_holds
from pointhouse.sayings import is_saying, is_so
from pointhouse.sketchtexts import read_sketch
from pointhouse.unknowns import MOST_WEIGHT, unknown_places
from pointhouse.weights import weight_in, weights_by_name

SORTS = ("holds", "rules", "fails")

MOST_STEPS = 14

# The most that a saying weighs, by how many unknowns its sketch has.
MOST_BY_UNKNOWNS = (12, 12, 12, 12, 8)


def finding_holds(thing):
    """Whether anything is a finding that holds."""
    if not isinstance(thing, tuple) or len(thing) != 4 or thing[0] not in SORTS:
        return False
    sort, text, saying, shown = thing
    try:
        sketch = read_sketch(text)
    except NoText:
        return False
    if not is_saying(sketch, saying) or not is_within_bounds(sketch, saying):
        return False
    if sort == "holds":
        return rows_hold(sketch, saying, shown)
    if sort == "rules":
        return paper_holds(sketch, saying, shown)
    return is_hand(sketch, shown) and is_broken(sketch, saying, shown)


def is_within_bounds(sketch, saying):
    """Whether a sketch is of few steps that weigh little, and of few unknowns for what the saying weighs."""
    if len(sketch) > MOST_STEPS:
        return False
    weights = list(weights_by_name(sketch).values())
    unknowns = len(unknown_places(sketch))
    if None in weights or max(weights, default=0) > MOST_WEIGHT or unknowns >= len(MOST_BY_UNKNOWNS):
        return False
    return weight_in(sketch, saying) <= MOST_BY_UNKNOWNS[unknowns]


def is_broken(sketch, saying, hand):
    """Whether by a hand the saying's things are there and it doesn't hold."""
    try:
        return is_so(sketch, hand, saying) is False
    except TwoRoots:
        return False
