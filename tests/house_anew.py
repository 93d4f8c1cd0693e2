"""A House written a second time, by the words of points 21 and 22: what is kept is copied whole ahead of each deed."""

import copy
import re

from pointhouse import errors
from pointhouse.exacts import Exact
from pointhouse.general import ask
from tests.anew import BoardAnew
from tests.helper import OWN, PATTERNS, SAYINGS, first_wrong, goes_on, letters_of, names_of, sort_made
from tests.test_lessons import is_lesson_anew, judged_anew


class Refused(Exception):
    """What a House refuses with: the class, its field, and what it was raised from."""

    def __init__(self, kind, *fields, cause=None):
        super().__init__(kind, *fields)
        self.kind, self.fields, self.cause = kind, fields, cause

    def told(self):
        return (self.kind.__name__, *self.fields, *([self.cause.told()] if self.cause else []))


def is_name(thing):
    return type(thing) is str and re.fullmatch("[a-z]{1,8}", thing) is not None


def is_step(thing):
    """By its form, whatever is ahead of it."""
    if type(thing) is not tuple or not thing or type(thing[0]) is not str or thing[0] not in PATTERNS:
        return False
    if len(thing) != 1 + len(PATTERNS[thing[0]].split()):
        return False
    numbers = {"n": (1, 2, 3), "k": (0, 1)}
    return all(type(part) is int and part in numbers[letter] if letter in numbers else is_name(part)
               for letter, part in letters_of(thing).items())


def is_saying(thing):
    if type(thing) is not tuple or not thing or type(thing[0]) is not str or thing[0] not in (*SAYINGS, "at"):
        return False
    return len(thing) == 1 + SAYINGS.get(thing[0], 2) and all(is_name(name) for name in thing[1:])


def are_numbers(thing):
    return type(thing) is tuple and all(type(number) is Exact and number.sign == 0 for number in thing)


def is_sketch(thing):
    return type(thing) is tuple and first_wrong(thing) is None


FORMS = {
    "sketch": (is_name, is_sketch, are_numbers), "drop": (is_name,), "step": (is_name, is_step, are_numbers),
    "call": (is_name, is_name, is_name), "back": (is_name,), "out": (is_name, is_name), "move": (is_name, are_numbers),
    "claim": (is_name, is_saying), "make": (is_name, lambda thing: type(thing) is tuple and all(map(is_step, thing))),
}


def is_deed(thing, alls=4):
    if type(thing) is not tuple or not thing or type(thing[0]) is not str:
        return False
    word, *parts = thing
    if word == "all":
        return alls > 0 and len(parts) == 1 and type(parts[0]) is tuple and all(is_deed(deed, alls - 1) for deed in parts[0])
    if word == "lesson":
        return len(parts) == 3 and is_name(parts[0]) and is_lesson_anew((parts[1], parts[2]))
    return word in FORMS and len(parts) == len(FORMS[word]) and all(form(part) for form, part in zip(FORMS[word], parts))


def renamed_anew(step, calls):
    """A step, or a saying, by new names."""
    if step[0] in PATTERNS and is_step(step):
        return (step[0], *[calls.get(part, part) if letter not in "nk" else part for letter, part in letters_of(step).items()])
    return (step[0], *[calls.get(name, name) for name in step[1:]])


def gone_anew(sketch, name):
    gone = [name]
    for step in sketch:
        if any(part in gone for part in names_of(step)):
            gone.append(step[1])
    return [step[1] for step in sketch if step[1] in gone]


def left_of_hand(sketch, hand, gone):
    left, rest = [], list(hand)
    for step in sketch:
        own = [rest.pop(0) for _ in range(OWN.get(step[0], 0))]
        left += own if step[1] not in gone else []
    return tuple(left)


class HouseAnew:
    def __init__(self):
        self.kept, self.log = {}, []

    def do(self, deed):
        if not is_deed(deed):
            self.log += ["in none", "out none"]
            raise Refused(errors.NoDeed, deed)
        ahead = copy.deepcopy(self.kept)
        self.log.append(f"in {deed[0]}")
        try:
            return getattr(self, f"do_{deed[0]}")(*deed[1:])
        except Refused:
            self.kept = ahead
            raise
        finally:
            self.log.append(f"out {deed[0]}")

    def at(self, title, sort):
        if title not in self.kept or self.kept[title]["sort"] != sort:
            raise Refused(errors.Missing, title)
        return self.kept[title]

    def draw_anew(self, kept, sketch, hand, choices):
        board = BoardAnew(sketch, hand, True, choices)
        kept.update(sketch=sketch, board=board, claims=[(saying, self.ask(sketch, saying)) for saying, _ in kept["claims"]])

    def ask(self, sketch, saying):
        try:
            return ask(sketch, saying)
        except (errors.NotPlain, errors.NeverDone) as refused:
            raise Refused(type(refused), refused.number) from None

    def do_sketch(self, title, sketch, hand):
        if title in self.kept:
            raise Refused(errors.Taken, title)
        if len(hand) != sum(OWN.get(step[0], 0) for step in sketch):
            raise Refused(errors.NoFit, hand)
        self.kept[title] = {"sort": "sketch", "claims": []}
        self.draw_anew(self.kept[title], sketch, hand, {})

    def do_lesson(self, title, sketch, wishes):
        if title in self.kept:
            raise Refused(errors.Taken, title)
        self.kept[title] = {"sort": "lesson", "lesson": (sketch, wishes)}

    def do_drop(self, title):
        if title not in self.kept:
            raise Refused(errors.Missing, title)
        del self.kept[title]

    def do_step(self, title, step, numbers):
        kept = self.at(title, "sketch")
        if step[1] in [one[1] for one in kept["sketch"]]:
            raise Refused(errors.Taken, step[1])
        if not goes_on(kept["sketch"], step):
            raise Refused(errors.NoFit, step)
        if len(numbers) != OWN.get(step[0], 0):
            raise Refused(errors.NoFit, numbers)
        self.draw_anew(kept, (*kept["sketch"], step), (*kept["board"].hand, *numbers), kept["board"].choices)

    def do_out(self, title, name):
        kept = self.at(title, "sketch")
        sketch = kept["sketch"]
        if name not in [step[1] for step in sketch]:
            raise Refused(errors.Missing, name)
        gone = gone_anew(sketch, name)
        kept["claims"] = [claim for claim in kept["claims"] if not set(claim[0][1:]) & set(gone)]
        choices = {cross: number for cross, number in kept["board"].choices.items() if cross not in gone}
        hand = left_of_hand(sketch, kept["board"].hand, gone)
        self.draw_anew(kept, tuple(step for step in sketch if step[1] not in gone), hand, choices)
        return tuple(gone)

    def do_call(self, title, old, new):
        kept = self.at(title, "sketch")
        names = [step[1] for step in kept["sketch"]]
        if old not in names:
            raise Refused(errors.Missing, old)
        if new in names:
            raise Refused(errors.Taken, new)
        calls = {old: new}
        kept["claims"] = [(renamed_anew(saying, calls), told) for saying, told in kept["claims"]]
        choices = {calls.get(cross, cross): number for cross, number in kept["board"].choices.items()}
        sketch = tuple(renamed_anew(step, calls) for step in kept["sketch"])
        self.draw_anew(kept, sketch, kept["board"].hand, choices)

    def do_move(self, title, hand):
        kept = self.at(title, "sketch")
        if len(hand) != len(kept["board"].hand):
            raise Refused(errors.NoFit, hand)
        return kept["board"].move(hand)

    def do_back(self, title):
        kept = self.at(title, "sketch")
        if not kept["board"].past:
            raise Refused(errors.NoBack)
        kept["board"].back()

    def do_claim(self, title, saying):
        kept = self.at(title, "sketch")
        kinds = {step[1]: sort_made(step) for step in kept["sketch"]}
        for at, name in enumerate(saying[1:]):
            if kinds.get(name) not in (("line", "circle") if saying[0] == "at" and at == 1 else ("point",)):
                raise Refused(errors.NoFit, saying)
        told = self.ask(kept["sketch"], saying)
        if saying not in [one for one, _ in kept["claims"]]:
            kept["claims"].append((saying, told))
        return told[0]

    def do_make(self, title, steps):
        return judged_anew(self.at(title, "lesson")["lesson"], steps)

    def do_all(self, deeds):
        told = []
        for number, deed in enumerate(deeds):
            try:
                told.append(self.do(deed))
            except Refused as refused:
                raise Refused(errors.Undone, number, cause=refused) from refused
        return tuple(told)
