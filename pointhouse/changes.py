"""Changes of sketches: a step goes with all that hangs on it, or names are called otherwise; and of what belonged to
the sketch ahead what is left of it behind."""

from pointhouse.drawing import numbers_by_step
from pointhouse.ruleforms import steps_borne
from pointhouse.steps import hanging
from pointhouse.unknowns import places_by_step, unknown_places


def without(sketch, name):
    """(the sketch without this step and those that hang on it, the names that went)."""
    left = numbers_left(sketch, name)
    names = tuple([step[1] for number, step in enumerate(sketch) if number not in left])
    return tuple([sketch[number] for number in left]), names


def renamed(sketch, calls):
    """The sketch with names called otherwise by pairs (old, new), all at once."""
    return tuple([parts_renamed(step, calls) for step in sketch])


def hand_without(sketch, hand, name):
    """A hand of the sketch without the numbers of what goes."""
    parts = numbers_by_step(sketch, hand)
    return tuple([number for at in numbers_left(sketch, name) for number in parts[at]])


def rows_without(sketch, rows, name):
    """Rows with steps and unknowns counted anew; None where they can't stay."""
    left = numbers_left(sketch, name)
    frees = [number for number, step in enumerate(sketch) if step[0] == "free"]
    if not all([number in left for number in frees[:2] + [number for number, _ in rows]]):
        return None
    kept = unknowns_left(sketch, left)
    if any([power > 0 and at not in kept for powers in all_powers(rows) for at, power in enumerate(powers)]):
        return None
    return tuple([(left.index(number), row_on(row, kept)) for number, row in rows])


def paper_without(sketch, paper, name):
    """A paper by rules with steps counted anew; None where a step whose number it bears goes, or a name in it."""
    left = numbers_left(sketch, name)
    _, gone = without(sketch, name)
    if any([part in gone for saying, _, _ in paper for part in saying[1:]]):
        return None
    if not all([number in left for _, rule, places in paper for number in places[:steps_borne(rule)]]):
        return None
    return tuple([(saying, rule, places_anew(rule, places, left)) for saying, rule, places in paper])


def paper_renamed(paper, calls):
    """A paper by rules with its sayings by new names."""
    return tuple([(parts_renamed(saying, calls), rule, places) for saying, rule, places in paper])


def numbers_left(sketch, name):
    """The numbers of the steps that stay where this one goes, rising."""
    gone = hanging(sketch, name)
    return [number for number, step in enumerate(sketch) if step[1] != name and number not in gone]


def parts_renamed(parts, calls):
    """A step or a saying with its names, behind its word, called otherwise."""
    names = {old: new for old, new in calls}
    return (parts[0], *[names.get(part, part) for part in parts[1:]])


def unknowns_left(sketch, left):
    """The numbers of the unknowns that stay where these steps do, rising."""
    parts = places_by_step(sketch)
    places = [place for number in left for place in parts[number]]
    return [at for at, place in enumerate(unknown_places(sketch)) if place in places]


def all_powers(rows):
    """The powers of all sums in rows."""
    return [powers for _, row in rows for one in row for powers, _ in one]


def row_on(row, kept):
    """A row of sums of just these of the unknowns."""
    return tuple([sum_on(one, kept) for one in row])


def sum_on(one, kept):
    """A sum of just these of the unknowns; the others have no power above 0 in it."""
    return tuple([(tuple([powers[at] for at in kept]), many) for powers, many in one])


def places_anew(rule, places, left):
    """The places of a row by this rule, numbers of steps counted anew."""
    many = steps_borne(rule)
    return (*[left.index(number) for number in places[:many]], *places[many:])
