import copy
import random
import unittest

from pointhouse import errors
from pointhouse.drawing import is_hand
from pointhouse.exacts import Exact
from pointhouse.general import ask
from pointhouse.generalchecks import rows_hold
from pointhouse.lessons import is_lesson, judged
from pointhouse.sayings import is_so
from tests.general_anew import chance_drawings, first_breaking, first_refused
from tests.helper import SAYINGS, any_sketch, first_wrong, lines_as_sketch, sort_made
from tests.test_general import in_bounds

TRIANGLE = lines_as_sketch("free a", "free b", "free c", "line l a b", "line m b c", "circle k a b")
MIDDLE = (TRIANGLE, (("alike", "x", "a", "x", "b"), ("row", "a", "x", "b")))
OTHER_KINDS = (
    None, True, 0, "", "lesson", (), [], {}, (TRIANGLE,), (TRIANGLE, ()), (TRIANGLE, None), (TRIANGLE, "same a b"), Exact(1),
    (None, (("same", "a", "b"),)), ((), ()), {0: TRIANGLE, 1: (("same", "a", "b"),)}, "free a", (1, 2),
    (TRIANGLE, (("same", "a", "b"),), ()),
)


def is_lesson_anew(thing):
    if type(thing) is not tuple or len(thing) != 2 or type(thing[0]) is not tuple or type(thing[1]) is not tuple:
        return False
    sketch, wishes = thing
    if first_wrong(sketch) is not None or len(wishes) not in (1, 2, 3, 4):
        return False
    kinds = {step[1]: sort_made(step) for step in sketch}
    for wish in wishes:
        if type(wish) is not tuple or not wish or type(wish[0]) is not str or wish[0] not in (*SAYINGS, "at"):
            return False
        sorts = ["point"] * SAYINGS[wish[0]] if wish[0] in SAYINGS else ["point", "line circle"]
        if len(wish) != 1 + len(sorts):
            return False
        for name, sort in zip(wish[1:], sorts):
            if type(name) is not str or not 1 <= len(name) <= 8 or any(letter not in "abcdefghijklmnopqrstuvwxyz" for letter in name):
                return False
            if name in kinds and kinds[name] not in sort:
                return False
    return True


def judged_anew(lesson, steps):
    """What is told of a making, by the words of point 19."""
    sketch, wishes = lesson
    wrong = first_wrong(tuple(sketch) + tuple(steps))
    if wrong is not None:
        return "wrong", wrong - len(sketch)
    whole = sketch + steps
    kinds = {step[1]: sort_made(step) for step in whole}
    for wish in wishes:
        for at, name in enumerate(wish[1:]):
            wanted = ("line", "circle") if wish[0] == "at" and at == 1 else ("point",)
            if kinds.get(name) not in wanted:
                return "lacks", name
    told = []
    for wish in wishes:
        try:
            told.append(ask(whole, wish))
        except errors.NotPlain as refused:
            return "plain", refused.number
        except errors.NeverDone as refused:
            return "never", refused.number
    for number, (word, shown) in enumerate(told):
        if word == "fails":
            return "fails", number, shown
    return "held", tuple(shown for _, shown in told)


class Lessons(unittest.TestCase):
    def is_lesson(self, thing, wanted=None):
        ahead = copy.deepcopy(thing)
        told = is_lesson(thing)
        self.assertIs(type(told), bool)
        self.assertIs(is_lesson(thing=thing), told)
        self.assertEqual(thing, ahead)
        self.assertIs(told, is_lesson_anew(thing), thing)
        if wanted is not None:
            self.assertIs(told, wanted, thing)
        return told

    def judged(self, lesson, steps, wanted=None):
        ahead = copy.deepcopy((lesson, steps))
        told = judged(lesson, steps)
        self.assertEqual(judged(steps=steps, lesson=lesson), told)
        self.assertEqual((lesson, steps), ahead)
        self.assertEqual(told, judged_anew(lesson, steps))
        self.assertIs(type(told), tuple)
        if wanted is not None:
            self.assertEqual(told[:len(wanted)], wanted)
        return told


class IsLesson(Lessons):
    def test_one_to_four_wishes(self):
        wish = ("alike", "x", "a", "x", "b")
        for many in range(7):
            self.is_lesson((TRIANGLE, (wish,) * many), 1 <= many <= 4)
        self.is_lesson(MIDDLE, True)
        self.is_lesson(((), (("same", "p", "q"),)), True)

    def test_each_word(self):
        for word, many in SAYINGS.items():
            names = tuple("abcxyz"[:many])
            self.is_lesson((TRIANGLE, ((word, *names),)), True)
            for other in ((word, *names[1:]), (word, *names, "a"), (word,), word, [word, *names], (word, *names[1:], "l"),
                          (word, "k", *names[1:]), (word, "", *names[1:]), (word, None, *names[1:]), (word + "s", *names),
                          (None, *names)):
                self.is_lesson((TRIANGLE, (other,)), False)
                self.is_lesson((TRIANGLE, ((word, *names), other)), False)

    def test_sorts_of_names(self):
        for wish, wanted in ((("at", "a", "l"), True), (("at", "a", "k"), True), (("at", "x", "k"), True),
                             (("at", "x", "y"), True),
                             (("at", "a", "y"), True), (("at", "l", "a"), False), (("at", "a", "b"), False),
                             (("at", "l", "k"), False),
                             (("same", "a", "l"), False), (("same", "x", "l"), False), (("unlike", "a", "b"), False),
                             (("at", "x", "x"), True), (("same", "x", "x"), True), (("row", "a", "a", "a"), True)):
            self.is_lesson((TRIANGLE, (wish,)), wanted)
        # A name that is to be made may be wanted of two sorts.
        self.is_lesson((TRIANGLE, (("at", "a", "x"), ("same", "x", "a"))), True)
        self.is_lesson((TRIANGLE, (("same", "x", "a"), ("at", "x", "l"))), True)
        self.is_lesson((TRIANGLE, (("same", "x", "a"), ("at", "l", "x"))), False)

    def test_names(self):
        for name, wanted in (("abcdefgh", True), ("abcdefghi", False), ("a", True), ("", False), ("A", False), ("a1", False),
                             ("x y", False),
                             ("x\n", False), ("zz", True), (None, False), (1, False), (("x",), False)):
            self.is_lesson((TRIANGLE, (("same", name, "a"),)), wanted)
            self.is_lesson((TRIANGLE, (("at", "a", name),)), wanted if name != "a" else False)

    def test_sketches(self):
        wishes = (("same", "p", "q"),)
        self.is_lesson(((("free", "a"), ("free", "a")), wishes), False)
        self.is_lesson(((("line", "l", "a", "b"),), wishes), False)
        self.is_lesson(([("free", "a")], wishes), False)
        self.is_lesson((lines_as_sketch("free p", "free q"), wishes), True)
        long = lines_as_sketch("free p", *[f"free {a}{b}" for a in "abcde" for b in "abcde"])
        self.is_lesson((long, wishes), True)

    def test_other_kinds(self):
        for thing in OTHER_KINDS:
            self.is_lesson(thing, False)
            self.is_lesson((thing, MIDDLE[1]), thing == ())
            self.is_lesson((TRIANGLE, (thing,)), False)
            self.is_lesson((TRIANGLE, MIDDLE[1] + (thing,)), False)
        self.is_lesson([*MIDDLE], False)
        self.is_lesson((TRIANGLE, list(MIDDLE[1])), False)
        self.is_lesson((*MIDDLE, ()), False)
        deep = ()
        for _ in range(29):
            deep = (deep,)
        self.is_lesson(deep, False)
        self.is_lesson((TRIANGLE, deep), False)
        self.is_lesson((TRIANGLE, (("same", "a", "b"),) * 9000), False)
        self.is_lesson(((("free", "a"),) * 9000, MIDDLE[1]), False)
        self.is_lesson((TRIANGLE, (("same", "a" * 4000, "b"),)), False)


class Judged(Lessons):
    def test_held(self):
        told = self.judged(MIDDLE, (("middle", "x", "a", "b"),), ("held",))
        self.assertEqual(len(told), 2)
        self.assertEqual(len(told[1]), 2)
        whole = TRIANGLE + (("middle", "x", "a", "b"),)
        for wish, rows in zip(MIDDLE[1], told[1]):
            self.assertTrue(rows_hold(whole, wish, rows))
            self.assertEqual(ask(whole, wish), ("holds", rows))
        steps = lines_as_sketch("circle i b a", "turn p a b 1", "turn q b a 3", "line n p q", "foot r a n", "middle x b a")
        self.judged(MIDDLE, steps, ("held",))
        self.judged((TRIANGLE, (("at", "a", "l"),)), (), ("held",))
        four = (("at", "a", "l"), ("at", "b", "l"), ("at", "b", "k"), ("at", "c", "m"))
        self.assertEqual(len(self.judged((TRIANGLE, four), (), ("held",))[1]), 4)

    def test_wrong(self):
        good, other = ("middle", "x", "a", "b"), ("foot", "y", "c", "l")
        for wrong in (("middle", "a", "a", "b"), ("middle", "y", "a", "a"), ("middle", "y", "a", "z"),
                      ("middle", "y", "a", "l"),
                      ("middle", "y", "a"), ("middle", "y", "a", "b", "c"), ("halve", "y", "a", "b"),
                      ("turn", "y", "a", "b", 4),
                      ("turn", "y", "a", "b", True), ("free", "Y"), None, 3, "free y", ["free", "y"], (), ((),),
                      ("free", ["y"]),
                      ("free",), (None, "y"), {"free": "y"}, Exact(1), ("middle", "x", "a", "c"),
                      ("other", "y", "m", "k", "c")):
            self.judged(MIDDLE, (good, wrong), ("wrong", 1))
            self.judged(MIDDLE, (good, other, wrong, wrong), ("wrong", 2))
            if wrong != ("middle", "x", "a", "c"):
                self.judged(MIDDLE, (wrong,), ("wrong", 0))
                self.judged(MIDDLE, (wrong, good), ("wrong", 0))
        # The sketch's own steps stand ahead of the making's.
        self.judged((TRIANGLE[:2], (("same", "a", "b"),)), (("line", "l", "a", "b"), ("on", "p", "m"),
                                                            ("line", "m", "a", "b")), ("wrong", 1))

    def test_lacks(self):
        for steps, name in (((), "x"), ((("middle", "y", "a", "b"),), "x"), ((("line", "x", "a", "c"),), "x"),
                            ((("circle", "x", "a", "c"),), "x")):
            self.judged(MIDDLE, steps, ("lacks", name))
        wishes = (("at", "x", "y"), ("row", "z", "a", "w"))
        for row, name in (((), "x"), (("free x",), "y"), (("free x", "free y"), "y"), (("line y a c",), "x"),
                          (("free x", "line y a c"), "z"),
                          (("free x", "circle y a c", "free z"), "w"), (("free x", "circle y a c", "free w"), "z"),
                          (("free x", "circle y a c", "free w", "line z w x"), "z")):
            self.judged((TRIANGLE, wishes), lines_as_sketch(*row), ("lacks", name))
        # Wanted of two sorts there is none.
        self.judged((TRIANGLE, (("at", "a", "x"), ("same", "x", "a"))), lines_as_sketch("line x a c"), ("lacks", "x"))
        self.judged((TRIANGLE, (("at", "a", "x"), ("same", "x", "a"))), lines_as_sketch("free x"), ("lacks", "x"))

    CROSS = ("cross", "x", "m", "k", 0)
    NEVER = lines_as_sketch("middle d a b", "middle e b a", "line n d e", "foot x c n")

    def test_plain_and_never(self):
        lesson = (TRIANGLE, (("alike", "a", "b", "b", "a"), ("at", "x", "l"), ("same", "a", "b")))
        self.judged(lesson, (self.CROSS,), ("plain", 6))
        self.judged(lesson, lines_as_sketch("free d") + (self.CROSS,), ("plain", 7))
        self.judged(lesson, self.NEVER, ("never", 8))
        # By the first wish that is refused, whichever comes first in the sketch.
        steps = (("cross", "y", "m", "k", 0),) + self.NEVER
        self.judged((TRIANGLE, (("at", "x", "l"), ("at", "y", "l"))), steps, ("never", 9))
        self.judged((TRIANGLE, (("at", "y", "l"), ("at", "x", "l"))), steps, ("plain", 6))
        self.judged((TRIANGLE, (("same", "x", "y"),)), steps, ("plain", 6))
        # Not where it isn't needed.
        self.judged((TRIANGLE, (("at", "a", "l"),)), steps, ("held",))

    def test_fails(self):
        told = self.judged(MIDDLE, (("free", "x"),), ("fails", 0))
        whole = TRIANGLE + (("free", "x"),)
        self.assertEqual(told[2], ask(whole, MIDDLE[1][0])[1])
        self.assertEqual(told[2], first_breaking(whole, MIDDLE[1][0]))
        self.assertTrue(is_hand(whole, told[2]))
        self.assertIs(is_so(whole, told[2], MIDDLE[1][0]), False)
        self.assertEqual(self.judged(MIDDLE, (("turn", "x", "a", "b", 1), ("middle", "y", "a", "b")), ("fails", 0))[:2],
                         ("fails", 0))
        self.judged((TRIANGLE, MIDDLE[1][::-1]), (("on", "x", "l"),), ("fails", 1))
        four = (("at", "a", "l"), ("at", "b", "l"), ("at", "b", "k"), ("at", "c", "l"))
        self.judged((TRIANGLE, four), (), ("fails", 3))
        self.judged((TRIANGLE, four[::-1]), (), ("fails", 0))

    def test_the_first_that_is_so(self):
        wrong, failing = ("middle", "y", "a", "z"), ("at", "c", "l")
        lesson = (TRIANGLE, (failing, ("same", "z", "a"), ("at", "x", "l")))
        # wrong ahead of lacks, of plain and never, of fails.
        self.judged(lesson, (wrong,), ("wrong", 0))
        self.judged(lesson, (self.CROSS, wrong), ("wrong", 1))
        # lacks ahead of plain, never and fails, though its wish stands behind theirs.
        self.judged(lesson, (self.CROSS,), ("lacks", "z"))
        self.judged((TRIANGLE, (("at", "x", "l"), ("same", "z", "a"))), self.NEVER, ("lacks", "z"))
        self.judged((TRIANGLE, (failing, ("same", "z", "a"))), (), ("lacks", "z"))
        # plain and never ahead of fails, though their wish stands behind.
        self.judged((TRIANGLE, (failing, ("at", "x", "l"))), (self.CROSS,), ("plain", 6))
        self.judged((TRIANGLE, (failing, ("at", "x", "l"))), self.NEVER, ("never", 8))
        # fails ahead of held.
        self.judged((TRIANGLE, (("at", "a", "l"), failing)), (), ("fails", 1))

    def test_no_steps(self):
        self.judged((TRIANGLE, (("same", "a", "a"),)), (), ("held",))
        self.judged((TRIANGLE, (("same", "a", "b"),)), (), ("fails", 0))
        self.judged(((), (("same", "a", "a"),)), (), ("lacks", "a"))

    def test_by_chance(self):
        met = {}
        for seed in range(9000, 9700):
            chance = random.Random(seed)
            sketch = any_sketch(chance, chance.randint(2, 9), chance.choice(((), (), TRIANGLE)))
            many = chance.randint(0, len(sketch))
            names = [step[1] for step in sketch if sort_made(step) == "point"]
            wishes = []
            for _ in range(chance.randint(1, 4)):
                word = chance.choice(list(SAYINGS))
                wishes.append((word, *[chance.choice(names) for _ in range(SAYINGS[word])]))
            lesson, steps = (sketch[:many], tuple(wishes)), sketch[many:]
            self.is_lesson(lesson, True)
            drawings = chance_drawings(chance, sketch)
            if all(in_bounds(sketch, wish) or first_refused(drawings, sketch, wish[1:]) for wish in wishes):
                for making in (steps, steps[:-1], (*steps, ("free", "a", "b"))):
                    told = self.judged(lesson, making)
                    met[told[0]] = met.get(told[0], 0) + 1
        self.assertGreater(min(met[word] for word in ("wrong", "lacks", "plain", "never", "fails", "held")), 5, met)
