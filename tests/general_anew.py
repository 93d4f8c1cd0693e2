"""What holds in general, reckoned a second way: rows are held against the words of point 13, step by step, and
breaking hands are searched for in drawings of tests/anew.py."""

import itertools
from fractions import Fraction

from tests.anew import Circle, Drawer, from_exact, holds
from tests.helper import OWN, hand_of, letters_of, names_of, sort_made


def needed_anew(sketch, names):
    """The numbers of the steps that names need."""
    by_name = {step[1]: step for step in sketch}
    found, rest = set(), list(names)
    while rest:
        name = rest.pop()
        found.add(name)
        rest += names_of(by_name[name])
    return tuple(number for number, step in enumerate(sketch) if step[1] in found)


def own_places(sketch):
    """For each step the places of its numbers in a hand."""
    places, at = [], 0
    for step in sketch:
        many = OWN.get(step[0], 0)
        places.append(list(range(at, at + many)))
        at += many
    return places


def standing(sketch):
    frees = [places for step, places in zip(sketch, own_places(sketch)) if step[0] == "free"][:2]
    return {at: number for places, numbers in zip(frees, ((0, 0), (1, 0))) for at, number in zip(places, numbers)}


def unknowns_of(sketch):
    """The places of the unknowns in a hand."""
    return [at for places in own_places(sketch) for at in places if at not in standing(sketch)]


def hand_with(sketch, worths):
    """The hand in which the unknowns of these places are worth so much, others 0."""
    many = sum(len(places) for places in own_places(sketch))
    return hand_of(*[standing(sketch).get(at, worths.get(at, 0)) for at in range(many)])


def done_and_so(sketch, hand, saying):
    """(whether the saying's steps can be done, whether it holds where they can)."""
    made = Drawer(sketch, hand).made
    if any(made[sketch[number][1]] is None for number in needed_anew(sketch, saying[1:])):
        return False, None
    return True, holds(saying[0], [made[name] for name in saying[1:]])


def first_breaking(sketch, saying, most=30):
    """The first hand that breaks a saying, by the words of point 14; None where its greatest would be above most."""
    places = own_places(sketch)
    unknowns = [at for number in needed_anew(sketch, saying[1:]) for at in places[number] if at not in standing(sketch)]
    for greatest in range(most + 1):
        for worths in itertools.product(range(greatest + 1), repeat=len(unknowns)):
            if max(worths, default=0) == greatest:
                hand = hand_with(sketch, dict(zip(unknowns, worths)))
                if done_and_so(sketch, hand, saying) == (True, False):
                    return hand
    return None


def chance_hand(chance, sketch):
    """A hand of quotients by which whatever can be done by some hand most likely can."""
    worths = {at: Fraction(chance.randint(-999, 999), chance.randint(1, 99)) for at in unknowns_of(sketch)}
    return hand_with(sketch, worths)


def chance_drawings(chance, sketch):
    """What is drawn, by names, by some hands of which one most likely does what any hand does."""
    return [Drawer(sketch, chance_hand(chance, sketch)).made for _ in range(3)]


def first_refused(drawings, sketch, names):
    """("plain" or "never", number) of the first of the steps that is refused, or None, by such drawings."""
    for number in needed_anew(sketch, names):
        if sketch[number][0] == "cross":
            return "plain", number
        if all(made[sketch[number][1]] is None for made in drawings):
            return "never", number
    return None


class Poly(dict):
    """A sum by its powers."""

    def plus(self, other, sign=1):
        found = dict(self)
        for powers, many in other.items():
            found[powers] = found.get(powers, 0) + sign * many
        return Poly({powers: many for powers, many in found.items() if many})

    def times(self, other):
        found = {}
        for (powers, many), (more, factor) in itertools.product(self.items(), other.items()):
            key = tuple(map(sum, zip(powers, more)))
            found[key] = found.get(key, 0) + many * factor
        return Poly({powers: many for powers, many in found.items() if many})


class Quotient:
    """One sum by another one; m is looked at where roots are asked for, which it never has."""

    m = 0

    def __init__(self, top, bottom):
        self.top, self.bottom = top, bottom
        powers = next(iter(bottom))
        self.one = Poly({(0,) * len(powers): 1})

    def of(self, other):
        if isinstance(other, Quotient):
            return other
        return Quotient(Poly({powers: other for powers in self.one if other}), self.one)

    def __add__(self, other):
        other = self.of(other)
        if self.bottom == other.bottom:
            return Quotient(self.top.plus(other.top), self.bottom)
        return Quotient(self.top.times(other.bottom).plus(other.top.times(self.bottom)), self.bottom.times(other.bottom))

    def __neg__(self):
        return Quotient(Poly().plus(self.top, -1), self.bottom)

    def __sub__(self, other):
        return self + -self.of(other)

    def __mul__(self, other):
        other = self.of(other)
        return Quotient(self.top.times(other.top), self.bottom.times(other.bottom))

    def __truediv__(self, other):
        other = self.of(other)
        return Quotient(self.top.times(other.bottom), self.bottom.times(other.top))

    def is_nought(self):
        return not self.top


class RowsAnew(Drawer):
    """Rows held against the words of point 13: each step makes, by the rows of what it is made of, what its row tells."""

    def __init__(self, sketch, rows):
        self.sketch = sketch
        self.steps = {step[1]: step for step in sketch}
        self.made = {}
        self.unknowns = unknowns_of(sketch)
        self.right = all([self.is_right(number, row) for number, row in rows])

    def number_at(self, at):
        one = (0,) * len(self.unknowns)
        if at in self.unknowns:
            return self.quotient(Poly({tuple(int(at == other) for other in self.unknowns): 1}))
        return self.quotient(Poly({one: standing(self.sketch)[at]} if standing(self.sketch)[at] else {}))

    def quotient(self, top, bottom=None):
        return Quotient(top, bottom or Poly({(0,) * len(self.unknowns): 1}))

    def is_right(self, number, row):
        step = self.sketch[number]
        by = letters_of(step)
        own = [self.number_at(at) for at in own_places(self.sketch)[number]]
        named = [self.made.get(by[letter]) for letter in by if letter in "PQOLMC"]
        thing = None if None in named else self.thing(step, by, own, named)
        if thing is None:
            return False
        if isinstance(thing, Circle):
            self.made[step[1]] = thing
            return row == ()
        a, b, c = (Poly(part) for part in row)
        if sort_made(step) == "line":
            if not a and not b:
                return False
            lead = a or b
            told = tuple(self.quotient(part, lead) for part in (a, b, c))
        elif not c:
            return False
        else:
            told = self.quotient(a, c), self.quotient(b, c)
        self.made[step[1]] = told
        return all((one - other).is_nought() for one, other in zip(told, thing))


def rows_hold_anew(sketch, saying, rows):
    """Whether rows, right by their form, are rows of the saying's steps by which it comes to nought."""
    if tuple(number for number, _ in rows) != needed_anew(sketch, saying[1:]):
        return False
    drawn = RowsAnew(sketch, rows)
    return drawn.right and holds(saying[0], [drawn.made[name] for name in saying[1:]])


def worths(sketch, hand):
    """What the unknowns are worth in a hand of whole numbers."""
    return tuple(hand[at].top for at in unknowns_of(sketch))


def as_quotients(thing):
    """The numbers of a point or a line without roots as fractions."""
    return [from_exact(number).q for number in thing]
