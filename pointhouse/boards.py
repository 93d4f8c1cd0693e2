"""Boards: sketches that are drawn by a hand, moved to other hands, and taken back."""

from pointhouse.bounds import SIGNS, WAYS
from pointhouse.drawing import Choices, drawn_by, own_choices
from pointhouse.errors import NoBack, NoWay, TwoRoots
from pointhouse.plane import square_sum, way_between


class NearChoices(Choices):
    """Choices by the places where the crosses stood last: of two meets the nearer one is chosen anew."""

    def __init__(self, chosen, places):
        Choices.__init__(self, chosen)
        self.places = places

    def choose(self, name, meets):
        """The number of the meet that the cross takes, which is its choice from now on."""
        if name in self.places:
            self.chosen[name] = nearer(self.places[name], meets, self.chosen[name])
        return self.chosen[name]


class Board:
    """A sketch that is drawn by a hand and moved."""

    def __init__(self, sketch, hand, *, way=SIGNS, choices=()):
        if way not in WAYS:
            raise NoWay(way)
        chosen = own_choices(sketch)
        for name, number in choices:
            chosen[name] = number
        self._sketch = sketch
        self._way = way
        # As a Board stands: hand, choices, places where crosses stood last, things. None of these is ever
        # changed, so what there is to go back to, and copies, may hold the same ones.
        self._now = stood(sketch, hand, Choices(chosen), ())
        self._past = []

    def __eq__(self, other):
        if not isinstance(other, Board):
            return False
        if self._sketch != other._sketch or self._way != other._way or self._now[:2] != other._now[:2]:
            return False
        return [past[:2] for past in self._past] == [past[:2] for past in other._past]

    def __len__(self):
        return len(self._past)

    def hand(self):
        """The hand by which it is drawn."""
        return self._now[0]

    def choices(self):
        """(name, number) of each cross, in order of steps."""
        return self._now[1]

    def things(self):
        """What each step makes, or None."""
        return self._now[3]

    def move(self, hand):
        """It is drawn by another hand; told are the names of the crosses whose choice turned."""
        _, ahead, places, _ = self._now
        chosen = dict(ahead)
        choices = Choices(chosen) if self._way == SIGNS else NearChoices(chosen, dict(places))
        behind = stood(self._sketch, hand, choices, places)
        self._past.append(self._now)
        self._now = behind
        return tuple([one[0] for one, other in zip(behind[1], ahead) if one != other])

    def back(self):
        """All is as ahead of the last move; NoBack where there is none."""
        if not self._past:
            raise NoBack("there is no move to go back")
        self._now = self._past.pop()

    def copy(self):
        """A Board of its own, as this one is."""
        board = Board(self._sketch, self._now[0], way=self._way)
        board._now = self._now
        board._past = list(self._past)
        return board


def stood(sketch, hand, choices, places):
    """(hand, choices, places, things) of a Board that is drawn anew and whose crosses stood last at these places."""
    made = drawn_by(sketch, hand, choices)
    last = dict(places)
    for name in choices.chosen:
        if made[name] is not None:
            last[name] = made[name]
    return hand, tuple(choices.chosen.items()), tuple(last.items()), tuple(made.values())


def nearer(place, meets, number):
    """The number of the meet that is nearer to a place; this number where that can't be told."""
    try:
        first, second = [far_square(place, meet) for meet in meets]
        if first.is_less(second):
            return 0
        return 1 if second.is_less(first) else number
    except TwoRoots:
        return number


def far_square(p, q):
    """The square of the way from one point to another."""
    x, y = way_between(p, q)
    return square_sum(x, y)
