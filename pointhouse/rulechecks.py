"""The checker of papers by rules: whoever wrote them, each row is held against what its rule tells."""

from pointhouse.bounds import RULES
from pointhouse.ruleforms import FORMS, matched, steps_borne, told_by, turned_ways
from pointhouse.steps import sorts_by_name
from pointhouse.wholes import is_whole


def paper_holds(sketch, saying, thing):
    """Whether anything is a paper by rules of the saying."""
    if not isinstance(thing, tuple) or len(thing) < 1:
        return False
    sorts = sorts_by_name(sketch)
    sayings = []
    for row in thing:
        if not is_row_by_form(row) or row[0] not in sayings_told(sketch, sorts, sayings, row[1], row[2]):
            return False
        sayings.append(row[0])
    # That points are unlike is said in rows alone: it is no saying of a sketch.
    return sayings[-1] == saying and saying[0] != "unlike"


def is_row_by_form(thing):
    """Whether anything is something, the word of a rule, and whole numbers."""
    if not isinstance(thing, tuple) or len(thing) != 3 or thing[1] not in RULES:
        return False
    return isinstance(thing[2], tuple) and all([is_whole(place) for place in thing[2]])


def sayings_told(sketch, sorts, sayings, rule, places):
    """The sayings that a rule tells by these places, in a row behind those of these sayings; none where what stands
    at the places isn't what it wants."""
    many = steps_borne(rule)
    if not are_numbers_below(len(sketch), places[:many]) or not are_numbers_below(len(sayings), places[many:]):
        return []
    steps = [sketch[place] for place in places[:many]]
    ahead = [sayings[place] for place in places[many:]]
    if rule == "turned":
        return turned_ways(ahead[0]) if len(ahead) == 1 else []
    return [saying for form in FORMS[rule] for saying in told_by_form(sorts, form, steps, ahead)]


def are_numbers_below(many, places):
    """Whether all of these are numbers of so many things."""
    return all([0 <= place < many for place in places])


def told_by_form(sorts, form, steps, ahead):
    """The sayings that a form of a rule tells of these steps and sayings; none where it doesn't want just these."""
    patterns = form[0] + form[1]
    if len(form[0]) != len(steps) or len(form[1]) != len(ahead):
        return []
    found = {}
    for pattern, thing in zip(patterns, steps + ahead):
        found = matched(sorts, found, pattern, thing)
        if found is None:
            return []
    return [told_by(found, pattern) for pattern in form[2]]
