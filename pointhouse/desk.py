"""A Desk: a House with one sketch, to which rows of words are said."""

from pointhouse.drawing import numbers_for
from pointhouse.errors import Missing, NoFit, NoRow, NoText
from pointhouse.exacts import read_exact
from pointhouse.houses import House
from pointhouse.sayings import is_saying, is_saying_by_form, is_so_by, numbers_of_thing
from pointhouse.sketchtexts import show_sketch, step_in
from pointhouse.steps import WANTS, is_name, is_step

TITLE = "a"


class Desk:
    """A House with one sketch, of no steps to begin with."""

    def __init__(self):
        self._house = House()
        self._house.do(("sketch", TITLE, (), ()))

    def say(self, row):
        """The answer to a row; NoRow of anything that is none, else refused as the House refuses the deed."""
        word, *rest = row.split(" ") if isinstance(row, str) else [""]
        if word in WANTS:
            return self._step(word, rest)
        if word == "move":
            return self._move(rest)
        if word in ("holds", "claim") and is_saying_by_form(tuple(rest)):
            return self._holds(tuple(rest)) if word == "holds" else self._claim(tuple(rest))
        if word in ("out", "where") and len(rest) == 1 and is_name(rest[0]):
            return self._out(rest[0]) if word == "out" else self._where(rest[0])
        if word in ("back", "text") and not rest:
            return self._back() if word == "back" else self._text()
        raise NoRow("this is no such row")

    def _step(self, word, rest):
        """A step more, with its own numbers of the hand behind it."""
        many = 1 + len(WANTS[word])
        step = step_in([word, *rest[:many]])
        if not is_step(step):
            raise NoRow("this is no step")
        self._house.do(("step", TITLE, step, numbers_in(rest[many:], numbers_for((step,)))))
        return "ok"

    def _out(self, name):
        """A step goes; told are the names that went."""
        return " ".join(self._house.do(("out", TITLE, name)))

    def _move(self, words):
        """The drawing is moved; told are the names of the crosses whose choice turned."""
        hand = numbers_in(words, numbers_for(self._house.sketch(TITLE)))
        return " ".join(self._house.do(("move", TITLE, hand))) or "none"

    def _back(self):
        """The last move is taken back."""
        self._house.do(("back", TITLE))
        return "ok"

    def _text(self):
        """The lines of the sketch."""
        return show_sketch(self._house.sketch(TITLE)).replace("\n", "/")

    def _where(self, name):
        """The numbers of the thing of this name."""
        names = [step[1] for step in self._house.sketch(TITLE)]
        if name not in names:
            raise Missing(name)
        thing = self._house.things(TITLE)[names.index(name)]
        return "none" if thing is None else in_words(numbers_of_thing(thing))

    def _holds(self, saying):
        """Whether a saying holds as the drawing stands."""
        sketch = self._house.sketch(TITLE)
        if not is_saying(sketch, saying):
            raise NoFit(saying)
        so = is_so_by(sketch, self._house.things(TITLE), saying)
        if so is None:
            return "none"
        return "yes" if so else "no"

    def _claim(self, saying):
        """Whether a saying holds in general, else the hand by which it fails."""
        word = self._house.do(("claim", TITLE, saying))
        if word == "holds":
            return word
        hands = [told[1] for claimed, told in self._house.claims(TITLE) if claimed == saying]
        return " ".join([word, in_words(hands[0])])


def in_words(numbers):
    """Numbers as they are written, with a blank between two."""
    return " ".join([str(number) for number in numbers])


def numbers_in(words, many):
    """So many numbers without roots, each as it is written; NoRow of other words."""
    try:
        numbers = tuple([read_exact(word) for word in words])
    except NoText:
        raise NoRow("this is no number") from None
    if len(numbers) != many or any([number.sign != 0 for number in numbers]):
        raise NoRow("these are other numbers than are wanted")
    return numbers
