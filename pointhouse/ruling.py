"""Papers by rules, found by search: by one row behind made ones, else from what is known onwards."""

from pointhouse.bounds import ROWS, RULES
from pointhouse.drawing import numbers_for
from pointhouse.errors import TwoRoots
from pointhouse.exacts import Exact
from pointhouse.knowledge import Knowledge
from pointhouse.ruleforms import turned_ways
from pointhouse.sayings import is_so
from pointhouse.steps import names_in, needed, sort_of

# The search gives up where so many sayings are known.
MOST_KNOWN = 1000

# By so many hands a saying is looked at before it is searched for.
SAMPLES = 3


def by_rules(sketch, saying, *, most=ROWS):
    """A paper of at most so many rows of a saying, or None; found where one row behind made ones is enough."""
    paper = paper_by_one_row(sketch, saying)
    if is_fitting(paper, most):
        return paper
    if is_worth_a_search(sketch, saying, most):
        # Fewer steps lead further before too much is known.
        for numbers in (steps_about(sketch, saying), all_steps(sketch)):
            paper = paper_by_search(sketch, numbers, saying)
            if is_fitting(paper, most):
                return paper
    return None


def is_fitting(paper, most):
    """Whether this is a paper, of at most so many rows."""
    return paper is not None and len(paper) <= most


def is_worth_a_search(sketch, saying, most):
    """Whether more rows than one behind made ones may tell the saying."""
    # With so few rows there is nothing between the made ones and the last; and these words no rule tells anew but made.
    if most < 3 or saying[0] in ("same", "at") or is_empty(saying):
        return False
    # What doesn't hold by a hand isn't told by rules, unless some step is never done.
    seen = [is_so_by_sample(sketch, saying, number) for number in range(SAMPLES)]
    return True in seen and False not in seen


def is_so_by_sample(sketch, saying, number):
    """Whether a saying is so by the sample hand of this number; None where one of its things isn't there."""
    try:
        return is_so(sketch, sample_hand(sketch, number), saying)
    except TwoRoots:
        # It can't be told whether it is so: it may be.
        return True


def sample_hand(sketch, number):
    """A hand of numbers that keep nothing by which they would be like one another."""
    worths = [(at * at * 5 + at * 37 + number * 29 & 63, 1 + (at + number & 3)) for at in range(numbers_for(sketch))]
    return tuple([Exact(top, bottom) for top, bottom in worths])


def all_steps(sketch):
    """The numbers of all steps."""
    return tuple(range(len(sketch)))


def steps_about(sketch, saying):
    """The numbers of the steps that a saying needs, and of the lines and circles that are made of these alone."""
    numbers = needed(sketch, saying[1:])
    names = [sketch[number][1] for number in numbers]
    return tuple([
        number
        for number, step in enumerate(sketch)
        if number in numbers or sort_of(step) != "point" and all([name in names for name in names_in(step)])
    ])


def paper_by_one_row(sketch, saying):
    """The shortest paper in which all rows but the last are made ones, or None."""
    known = made_knowledge(sketch, all_steps(sketch))
    ways = known.ways_to(saying)
    if ways:
        least = min([len(rows_wanted(way)) for way in ways])
        known.learn(saying, [way for way in ways if len(rows_wanted(way)) == least][0])
    return known.paper_of(saying) if saying in known.ways else None


def rows_wanted(way):
    """The sayings that a way wants, each once."""
    return {saying: True for saying in way[2]}


def made_knowledge(sketch, numbers):
    """What is made by the steps of these numbers."""
    known = Knowledge(sketch, numbers)
    for saying, way in known.told_further("made"):
        known.learn(saying, way)
    return known


def paper_by_search(sketch, numbers, saying):
    """A paper, by these steps, found by telling on and on what rules tell of what is known, or None."""
    known = made_knowledge(sketch, numbers)
    for one in list(known.ways):
        learn_turned(known, one)
    many = 0
    while many < len(known.ways) < MOST_KNOWN and saying not in known.ways:
        many = len(known.ways)
        for rule in RULES:
            learn_by(known, rule)
    return known.paper_of(saying) if saying in known.ways else None


def learn_by(known, rule):
    """All that a rule tells of what is known, and its turned ways, is known too."""
    for saying, way in known.told_further(rule):
        if not is_empty(saying) and len(known.ways) < MOST_KNOWN:
            known.learn(saying, way)
            learn_turned(known, saying)


def learn_turned(known, saying):
    """The turned ways of a known saying are known, too."""
    for other in turned_ways(saying):
        known.learn(other, ("turned", (), (saying,)))


def is_empty(saying):
    """Whether a saying tells of one point twice, or of one way twice, and so leads nowhere."""
    word = saying[0]
    if word in ("row", "ring"):
        return len(set(saying[1:])) < len(saying[1:])
    if word == "angle":
        first, second = saying[1:4], saying[4:]
        return first == second or first[1] in (first[0], first[2]) or second[1] in (second[0], second[2])
    if word in ("along", "upright", "alike"):
        first, second = saying[1:3], saying[3:]
        return first == second or first == second[::-1] or first[0] == first[1] or second[0] == second[1]
    return False
