import copy
import random
import unittest

from pointhouse.exacts import Exact
from pointhouse.steps import hanging, is_sketch, needed
from tests.helper import NO_WHOLES, PATTERNS, SKETCHES, any_sketch, first_wrong, letters_of, lines_as_sketch, names_of

CHANCE_SKETCHES = tuple(any_sketch(random.Random(seed), seed % 15) for seed in range(300))

WRONG_NAMES = ("", "A", "aB", "abcdefghi", "a b", "a1", "1", "a\n", " a", "a-", "a_", "{", "`", "~", "nowhere", "a" * 4000,
               "\u00e9", "\uff41", "\u00df", "\u0430")
WRONG_NUMBERS = (-1, 0, 1, 2, 3, 4, 10 ** 59)
WRONG_WORDS = ("", "Free", "free ", "point", "lines", "at", "same", "out", "claim")
OTHERS = (True, False, None, (), ("a",), [], ["a"], {}, {"a": 1}, Exact(1), Exact(2, 3), (("free", "a"),), ["free", "a"])


def is_right(sketch):
    return type(sketch) is tuple and first_wrong(list(sketch)) is None


def with_step(sketch, number, *steps):
    return sketch[:number] + steps + sketch[number + 1:]


def with_one_part_otherwise(sketch):
    """Sketches with another thing at one place of one step."""
    things = WRONG_NAMES + WRONG_NUMBERS + OTHERS + tuple(step[1] for step in sketch)
    for number, step in enumerate(sketch):
        for at in range(len(step)):
            for thing in things + (tuple(PATTERNS) + WRONG_WORDS if at == 0 else ("free", "line")):
                yield with_step(sketch, number, step[:at] + (thing,) + step[at + 1:])
            yield with_step(sketch, number, step[:at] + step[at + 1:])
            yield with_step(sketch, number, step[:at] + (step[at],) + step[at:])
            for to in range(at):
                yield with_step(sketch, number, step[:to] + (step[at],) + step[to + 1:at] + (step[to],) + step[at + 1:])
        for thing in ("z", "a", 0, 1, None, True):
            yield with_step(sketch, number, step + (thing,))


def with_one_step_otherwise(sketch):
    """Sketches with a step left out, told twice, exchanged, put elsewhere or of another kind."""
    for number, step in enumerate(sketch):
        yield with_step(sketch, number)
        yield with_step(sketch, number, step, step)
        yield with_step(sketch, number, list(step))
        yield with_step(sketch, number, (step,))
        yield with_step(sketch, number, " ".join(str(part) for part in step))
        for thing in OTHERS + (1, "", "a", ("free",), ("free", "zz"), ("free", "zz", "zz")):
            yield with_step(sketch, number, thing)
        for to in range(number):
            yield sketch[:to] + (step,) + sketch[to + 1:number] + (sketch[to],) + sketch[number + 1:]
            yield sketch[:to] + (step,) + sketch[to:number] + sketch[number + 1:]


class IsSketch(unittest.TestCase):
    def check(self, thing, wanted):
        ahead = copy.deepcopy(thing)
        self.assertIs(is_sketch(thing), wanted, thing)
        self.assertIs(is_sketch(thing=thing), wanted)
        self.assertEqual(thing, ahead)

    def test_right_ones(self):
        for sketch in SKETCHES + CHANCE_SKETCHES:
            self.check(sketch, True)

    def test_the_sketches_have_all_words(self):
        for sketches in (SKETCHES, CHANCE_SKETCHES):
            self.assertEqual({step[0] for sketch in sketches for step in sketch}, set(PATTERNS))
            self.assertIn(14, [len(sketch) for sketch in sketches])
            self.assertIn((), sketches)

    def test_one_part_otherwise(self):
        met = {True: 0, False: 0}
        for sketch in SKETCHES:
            for thing in with_one_part_otherwise(sketch):
                met[is_right(thing)] += 1
                self.check(thing, is_right(thing))
        self.assertGreater(min(met.values()), 300)

    def test_one_step_otherwise(self):
        met = {True: 0, False: 0}
        for sketch in SKETCHES + CHANCE_SKETCHES[:60]:
            for thing in with_one_step_otherwise(sketch):
                met[is_right(thing)] += 1
                self.check(thing, is_right(thing))
        self.assertGreater(min(met.values()), 300)

    def test_other_things(self):
        sketch = SKETCHES[2]
        things = NO_WHOLES[:-1] + (0, 1, 10 ** 60, "free a", ["free", "a"], ("free", "a"), list(sketch), [], {"free": "a"})
        for thing in things:
            self.check(thing, thing == () and type(thing) is tuple)
        self.check((sketch,), False)
        self.check((sketch[0], sketch), False)
        self.check(tuple(list(step) for step in sketch), False)
        self.check(dict(enumerate(sketch)), False)

    def test_deep_and_long_things(self):
        deep = "a"
        for _ in range(28):
            deep = (deep,)
            self.check((("free", deep),), False)
            self.check((("free", "a"), ("free", "b"), ("line", deep, "a", "b")), False)
            self.check((("free", "a"), ("free", "b"), ("line", "l", "a", [deep])), False)
            self.check((deep,), False)
            self.check(deep, False)
        self.check(((),) * 30000, False)
        self.check((("free", "a"),) * 15000, False)
        self.check(("free",) + ("a",) * 30000, False)
        self.check((("free",) + ("a",) * 30000,), False)

    def test_however_many_steps(self):
        letters = "abcdefghijklmnopqrstuvwxyz"
        names = [one + two + three for one in letters for two in letters for three in letters]
        long = tuple(("free", name) for name in names[:15000])
        self.check(long[:14], True)
        self.check(long[:15], True)
        self.check(long, True)
        self.check(long + (("free", names[0]),), False)
        self.check(long + (("line", "l", names[0], names[14999]),), True)
        self.check(long + (("line", "l", names[0], names[15000]),), False)


class Outright(unittest.TestCase):
    """A sketch with a step behind it, rows in words, each told right or wrong."""

    AHEAD = ("free o", "free p", "free q", "line l p q", "line m q p", "line i o q", "along n p l", "upright u p l",
             "along g q l", "upright h q l", "circle k o p", "circle j p o")

    def check(self, wanted, *rows):
        for row in rows:
            with self.subTest(row):
                self.assertIs(is_sketch(lines_as_sketch(*self.AHEAD, row)), wanted)

    def test_right_ones(self):
        self.check(True, "free a", "free abcdefgh", "free free", "free zz", "on a l", "on a n", "on a u", "round a k",
                   "meet a l m", "meet a u n", "middle a o p", "foot a p l", "foot a o u", "mirror a p l", "turn a p o 1",
                   "turn a p o 2", "turn a o p 3", "cross a l k 0", "cross a i k 1", "cross a h j 1", "line a p q",
                   "along a q n", "along a p l", "upright a o u", "circle a p q", "circle a o p")

    def test_names_of_another_sort(self):
        self.check(False, "on a p", "on a k", "round a l", "round a o", "meet a l k", "meet a p m", "middle a o l",
                   "middle a k o", "foot a l p", "foot a k l", "foot a p q", "mirror a p k", "turn a p l 1", "turn a k p 1",
                   "cross a k l 0", "cross a o k 0", "cross a l p 0", "line a p l", "line a k q", "along a l p",
                   "along a p q", "upright a p k", "upright a l m", "circle a o l", "circle a k p")

    def test_two_names_alike(self):
        self.check(False, "meet a l l", "middle a o o", "turn a p p 1", "line a q q", "circle a o o", "line a a p",
                   "middle a p a")

    def test_own_names(self):
        self.check(False, "free o", "free l", "free k", "on q l", "line l o p", "circle k p q", "circle m p q",
                   "free A", "free abcdefghi", "free a1", "free a-")

    def test_names_that_are_nowhere(self):
        self.check(False, "on a z", "on a a", "round a z", "meet a l z", "middle a z o", "foot a p z", "line a p z",
                   "along a z l", "circle a o z", "turn a z p 1", "cross a l z 0", "other a l k z", "other a z k p")

    def test_numbers(self):
        self.check(False, "turn a p o 0", "turn a p o 4", "cross a l k 2", "cross a l k 3", "turn a p o b", "cross a l k b",
                   "turn a p o", "cross a l k", "turn a 1 p o", "free a 1", "on a l 0")
        ahead = lines_as_sketch(*self.AHEAD)
        for number in (True, False, "1", "0", -1, -2, 10 ** 59, None, Exact(1), (1,), [1]):
            for step in (("turn", "a", "p", "o", number), ("cross", "a", "l", "k", number)):
                self.assertIs(is_sketch(ahead + (step,)), False, step)

    def test_other(self):
        self.check(True, "other a l k p", "other a m k p", "other a n k p", "other a u k p", "other a i j o")
        self.check(False, "other a i k p", "other a g k p", "other a h k p", "other a l k q", "other a l k o",
                   "other a l j p", "other a l j o", "other a n j o", "other a u k o", "other a i k o", "other a i j p",
                   "other a l m p", "other a k l p", "other a p k l", "other a l k p 1", "other a l k", "other a p k p",
                   "other a l l p", "other a l p k", "other l l k p", "other a n k q", "other a u k q")

    def test_other_by_the_own_step_alone(self):
        # The line leads through p, and the circle too, but by another step than their own.
        rows = ("free p", "free q", "line l p q", "on r l", "line x r q", "circle k q p", "circle y p q")
        for row, wanted in (("other a l k p", True), ("other a l y q", True), ("other a x k p", False),
                            ("other a x y q", True), ("other a l y p", False), ("other a x k r", False)):
            with self.subTest(row):
                self.assertIs(is_sketch(lines_as_sketch(*rows, row)), wanted)

    def test_names_made_behind(self):
        for sketch in SKETCHES[2:]:
            for number, step in enumerate(sketch):
                for name in names_of(step):
                    made = [one[1] for one in sketch].index(name)
                    turned = sketch[:made] + sketch[made + 1:number + 1] + (sketch[made],) + sketch[number + 1:]
                    self.assertIs(is_sketch(turned), False, turned)
                    self.assertIs(is_sketch(sketch[:made] + sketch[made + 1:]), False)

    def test_a_name_made_twice(self):
        for sketch in SKETCHES[2:]:
            for number, step in enumerate(sketch):
                for name in [one[1] for one in sketch if one != step]:
                    twice = with_step(sketch, number, (step[0], name) + step[2:])
                    self.assertIs(is_sketch(twice), False, twice)


def closure(sketch):
    """Of each name those of the steps on which its step hangs."""
    under = {}
    for step in sketch:
        under[step[1]] = set(names_of(step)).union(*[under[name] for name in names_of(step)])
    return under


class HangingAndNeeded(unittest.TestCase):
    def check_kind(self, told, many):
        self.assertIs(type(told), tuple)
        self.assertEqual([type(number) for number in told], [int] * len(told))
        self.assertEqual(list(told), sorted(set(told)))
        self.assertTrue(all(0 <= number < many for number in told))

    def check_hanging(self, sketch, name):
        ahead = copy.deepcopy(sketch)
        told = hanging(sketch, name)
        self.check_kind(told, len(sketch))
        self.assertEqual(hanging(name=name, sketch=sketch), told)
        self.assertEqual(sketch, ahead)
        return told

    def check_needed(self, sketch, names):
        ahead = copy.deepcopy((sketch, names))
        told = needed(sketch, names)
        self.check_kind(told, len(sketch))
        self.assertEqual(needed(names=names, sketch=sketch), told)
        self.assertEqual((sketch, names), ahead)
        return told

    def test_each_name(self):
        for sketch in SKETCHES + CHANCE_SKETCHES:
            under = closure(sketch)
            for number, step in enumerate(sketch):
                name = step[1]
                wanted = [other for other, one in enumerate(sketch) if name in under[one[1]]]
                self.assertEqual(list(self.check_hanging(sketch, name)), wanted)
                self.assertNotIn(number, wanted)
                wanted = [other for other, one in enumerate(sketch) if one[1] == name or one[1] in under[name]]
                self.assertEqual(list(self.check_needed(sketch, (name,))), wanted)

    def test_several_names(self):
        chance = random.Random(5)
        for sketch in SKETCHES[1:] + CHANCE_SKETCHES[30:90]:
            under = closure(sketch)
            names = [step[1] for step in sketch]
            for many in (0, 1, 2, 3, 7):
                asked = tuple(chance.choice(names) for _ in range(many)) if names else ()
                all_under = set(asked).union(*[under[name] for name in asked])
                wanted = [number for number, name in enumerate(names) if name in all_under]
                self.assertEqual(list(self.check_needed(sketch, asked)), wanted)

    def test_told_ones(self):
        sketch = SKETCHES[2]
        self.assertEqual([step[1] for step in sketch], list("abclmpkrxhfwty"))
        cases = {
            "a": (3, 4, 5, 6, 7, 8, 10, 11, 12, 13), "b": (3, 5, 6, 7, 8, 9, 10, 11, 12, 13), "c": (4, 8, 9, 10, 11, 13),
            "l": (5, 8, 10, 11), "m": (8, 13), "p": (), "k": (7, 13), "r": (), "y": (),
        }
        for name, wanted in cases.items():
            self.assertEqual(self.check_hanging(sketch, name), wanted, name)
        cases = {
            ("a",): (0,), ("p",): (0, 1, 3, 5), ("x",): (0, 1, 2, 3, 4, 8), ("h",): (1, 2, 9), ("y",): (0, 1, 2, 4, 6, 13),
            ("c", "b"): (1, 2), ("h", "a", "h"): (0, 1, 2, 9), (): (), ("r", "w"): (0, 1, 2, 3, 6, 7, 11),
        }
        for names, wanted in cases.items():
            self.assertEqual(self.check_needed(sketch, names), wanted, names)

    def test_chains(self):
        rows = ["free a", "free b", "middle c a b"]
        rows += [f"middle {chr(ord('c') + k)} a {chr(ord('b') + k)}" for k in range(1, 12)]
        sketch = lines_as_sketch(*rows)
        self.assertEqual(len(sketch), 14)
        self.assertEqual(self.check_hanging(sketch, "b"), tuple(range(2, 14)))
        self.assertEqual(self.check_hanging(sketch, "g"), tuple(range(7, 14)))
        self.assertEqual(self.check_hanging(sketch, sketch[13][1]), ())
        self.assertEqual(self.check_needed(sketch, (sketch[13][1],)), tuple(range(14)))
        self.assertEqual(self.check_needed(sketch, ("g", "b")), tuple(range(7)))

    def test_names_that_are_words(self):
        sketch = SKETCHES[4]
        self.assertEqual(self.check_hanging(sketch, "free"), tuple(range(2, 10)))
        self.assertEqual(self.check_hanging(sketch, "turn"), ())
        self.assertEqual(self.check_needed(sketch, ("line",)), (1,))
        self.assertEqual(self.check_needed(sketch, ("turn",)), (0, 1, 2, 4, 5, 6, 7, 8))


class Helper(unittest.TestCase):
    def test_letters(self):
        self.assertEqual(letters_of(("turn", "t", "a", "b", 3)), {"N": "t", "P": "a", "O": "b", "n": 3})
