import copy
import random
import unittest

from pointhouse.weights import weight_in, weight_of
from tests.helper import PATTERNS, SKETCHES, any_sketch, letters_of, lines_as_sketch, sayings_of

CHANCE_SKETCHES = tuple(any_sketch(random.Random(seed), 4 + seed % 11) for seed in range(2000, 3000))


class Weighed:
    """The weights of point 8, each by its letters, from the top down."""

    def __init__(self, sketch):
        self.steps = {step[1]: step for step in sketch}
        self.frees = [step[1] for step in sketch if step[0] == "free"]

    def has_cross(self, name):
        step = self.steps[name]
        under = [part for letter, part in letters_of(step).items() if letter in "PQOLMC"]
        return step[0] == "cross" or any(self.has_cross(part) for part in under)

    def of(self, name):
        return None if self.has_cross(name) else self.plain(name)

    def plain(self, name):
        step = self.steps[name]
        word, by = step[0], letters_of(step)
        if word == "free":
            return 0 if self.frees.index(name) < 2 else 1
        if word == "on":
            return self.plain(self.steps[by["L"]][2]) + self.way(by["L"]) + 1
        if word == "round":
            circle = letters_of(self.steps[by["C"]])
            return self.plain(circle["O"]) + self.plain(circle["P"]) + 2
        if word == "other":
            circle = letters_of(self.steps[by["C"]])
            return self.plain(circle["O"]) + self.plain(by["P"]) + 2 * self.plain(by["L"])
        if word in ("foot", "mirror"):
            return self.plain(by["P"]) + 2 * self.plain(by["L"])
        if word in ("along", "upright"):
            return self.plain(by["P"]) + self.way(by["L"])
        return sum(self.plain(part) for letter, part in by.items() if letter in "PQOLM")

    def way(self, name):
        by = letters_of(self.steps[name])
        if "L" in by:
            return self.way(by["L"])
        return self.plain(by["P"]) + self.plain(by["Q"])

    def said(self, saying):
        names = list(saying[1:])
        if saying[0] == "angle":
            names += [saying[2], saying[5]]
        elif saying[0] != "at" and saying[0] in ("same", "alike", "ring"):
            names += names
        elif saying[0] == "at" and self.steps[saying[2]][0] == "circle":
            names += names
        each = [self.of(name) for name in names]
        return None if None in each else sum(each)


class Weights(unittest.TestCase):
    def weight(self, sketch, name):
        ahead = copy.deepcopy(sketch)
        told = weight_of(sketch, name)
        self.assertIn(type(told), (int, type(None)))
        self.assertEqual(weight_of(name=name, sketch=sketch), told)
        self.assertEqual(sketch, ahead)
        return told

    def weight_said(self, sketch, saying):
        ahead = copy.deepcopy((sketch, saying))
        told = weight_in(sketch, saying)
        self.assertIn(type(told), (int, type(None)))
        self.assertEqual(weight_in(saying=saying, sketch=sketch), told)
        self.assertEqual((sketch, saying), ahead)
        return told

    def check(self, sketch, wanted):
        self.assertEqual({step[1]: self.weight(sketch, step[1]) for step in sketch}, wanted)

    def test_the_same_reckoned_from_the_top_down(self):
        met = {True: 0, False: 0}
        for sketch in SKETCHES + CHANCE_SKETCHES:
            weighed = Weighed(sketch)
            for step in sketch:
                wanted = weighed.of(step[1])
                met[wanted is None] += 1
                self.assertEqual(self.weight(sketch, step[1]), wanted, (sketch, step[1]))
        self.assertGreater(min(met.values()), 100)
        met = [step[0] for sketch in CHANCE_SKETCHES for step in sketch]
        self.assertGreater(min(met.count(word) for word in PATTERNS), 20)

    def test_sayings_the_same_reckoned_from_the_top_down(self):
        chance = random.Random(8)
        met = {True: 0, False: 0}
        for sketch in SKETCHES[1:] + CHANCE_SKETCHES:
            weighed = Weighed(sketch)
            for saying in sayings_of(sketch, chance):
                wanted = weighed.said(saying)
                met[wanted is None] += 1
                self.assertEqual(self.weight_said(sketch, saying), wanted, (sketch, saying))
        self.assertGreater(min(met.values()), 100)

    def test_free_ones(self):
        self.check(lines_as_sketch("free a", "free b", "free c", "free d"), {"a": 0, "b": 0, "c": 1, "d": 1})
        self.check(lines_as_sketch("free a", "free b", "line l a b", "free c", "on p l", "free d"),
                   {"a": 0, "b": 0, "l": 0, "c": 1, "p": 1, "d": 1})
        self.check(lines_as_sketch("free a"), {"a": 0})

    def test_each_word(self):
        # f and g weigh 1 each; each word weighs its parts in a way of its own.
        ahead = ("free a", "free b", "free f", "free g", "line l f g", "line m a g", "circle k f g", "circle j a f")
        cases = {
            "free x": 1, "on x l": 4, "on x m": 2, "round x k": 4, "round x j": 3, "meet x l m": 3, "middle x f g": 2,
            "middle x a g": 1, "foot x f l": 5, "foot x a m": 2, "foot x f m": 3, "mirror x g l": 5, "mirror x a m": 2,
            "turn x f g 1": 2, "turn x a f 2": 1, "turn x f a 3": 1, "other x l k g": 6, "other x m k g": 4,
            "other x l j f": 5, "line x f g": 2, "line x a b": 0, "line x g b": 1, "along x f l": 3, "along x a l": 2,
            "along x f m": 2, "upright x f l": 3, "upright x b m": 1, "circle x f g": 2, "circle x f b": 1,
        }
        for row, wanted in cases.items():
            sketch = lines_as_sketch(*ahead, row)
            self.assertEqual(self.weight(sketch, "x"), wanted, row)
            self.assertEqual([self.weight(sketch, name) for name in "abfglmkj"], [0, 0, 1, 1, 2, 1, 2, 1])

    def test_ways(self):
        sketch = lines_as_sketch("free a", "free b", "free c", "free d", "line l c d", "along m c l", "upright n d m",
                                 "along o a n", "on p l", "on q m", "on r n", "on s o", "foot t p o", "mirror u q n")
        self.check(sketch, {"a": 0, "b": 0, "c": 1, "d": 1, "l": 2, "m": 3, "n": 3, "o": 2, "p": 4, "q": 4, "r": 4, "s": 3,
                            "t": 8, "u": 10})

    def test_a_line_through_what_weighs(self):
        sketch = lines_as_sketch("free a", "free b", "free c", "line l a c", "on p l", "line m p c", "along n p m",
                                 "on x m", "line o c p", "on y o", "on z n", "circle k p z", "circle j z p", "other v n j p")
        self.check(sketch, {"a": 0, "b": 0, "c": 1, "l": 1, "p": 2, "m": 3, "n": 5, "x": 6, "o": 3, "y": 5, "z": 6, "k": 8,
                            "j": 8, "v": 18})

    def test_crosses(self):
        sketch = lines_as_sketch("free a", "free b", "free c", "line l a b", "circle k a c", "cross x l k 0", "line m x c",
                                 "on p l", "along n a m", "on q n", "along o x l", "on r o", "round s k", "middle h q r")
        self.check(sketch, {"a": 0, "b": 0, "c": 1, "l": 0, "k": 1, "x": None, "m": None, "p": 1, "n": None, "q": None,
                            "o": None, "r": None, "s": 3, "h": None})
        self.assertEqual(self.weight_said(sketch, ("row", "a", "p", "s")), 4)
        for saying in (("row", "a", "p", "x"), ("same", "x", "x"), ("at", "a", "n"), ("at", "x", "l"), ("at", "x", "k"),
                       ("same", "q", "a"), ("alike", "a", "b", "c", "r"), ("angle", "a", "b", "c", "a", "b", "h"),
                       ("angle", "a", "x", "c", "a", "b", "c"), ("ring", "a", "b", "c", "q"), ("along", "x", "a", "b", "c")):
            self.assertIsNone(self.weight_said(sketch, saying), saying)

    def test_a_way_that_would_weigh(self):
        # Each of these lines hangs on the cross x, but its way is that of l.
        sketch = lines_as_sketch("free a", "free b", "line l a b", "circle k a b", "cross x l k 1", "along m x l",
                                 "upright n a m", "along o b n", "on p o", "on q n")
        self.check(sketch, {"a": 0, "b": 0, "l": 0, "k": 0, "x": None, "m": None, "n": None, "o": None, "p": None, "q": None})

    def test_sayings(self):
        # a 0, b 0, c 1, d 1, l 1, p 2, k 2, r 4.
        sketch = lines_as_sketch("free a", "free b", "free c", "free d", "line l a c", "on p l", "circle k c d", "round r k")
        self.check(sketch, {"a": 0, "b": 0, "c": 1, "d": 1, "l": 1, "p": 2, "k": 2, "r": 4})
        cases = {
            ("same", "a", "b"): 0, ("same", "c", "p"): 6, ("same", "p", "p"): 8, ("row", "a", "c", "p"): 3,
            ("row", "p", "p", "p"): 6, ("along", "a", "c", "p", "r"): 7, ("upright", "a", "c", "p", "r"): 7,
            ("upright", "c", "c", "c", "c"): 4, ("alike", "a", "c", "p", "r"): 14, ("alike", "c", "c", "d", "d"): 8,
            ("ring", "a", "c", "p", "r"): 14, ("ring", "r", "r", "r", "r"): 32,
            ("angle", "c", "a", "a", "a", "a", "a"): 1, ("angle", "a", "c", "a", "a", "a", "a"): 2,
            ("angle", "a", "a", "c", "a", "a", "a"): 1, ("angle", "a", "a", "a", "c", "a", "a"): 1,
            ("angle", "a", "a", "a", "a", "c", "a"): 2, ("angle", "a", "a", "a", "a", "a", "c"): 1,
            ("angle", "c", "d", "p", "r", "p", "c"): 14, ("angle", "c", "c", "c", "c", "c", "c"): 8,
            ("at", "a", "l"): 1, ("at", "p", "l"): 3, ("at", "r", "l"): 5, ("at", "a", "k"): 4, ("at", "c", "k"): 6,
            ("at", "r", "k"): 12,
        }
        for saying, wanted in cases.items():
            self.assertEqual(self.weight_said(sketch, saying), wanted, saying)

    def test_names_that_are_words_of_sayings(self):
        sketch = lines_as_sketch("free at", "free same", "free ring", "line angle at ring", "circle alike same ring")
        self.assertEqual(self.weight_said(sketch, ("at", "ring", "angle")), 2)
        self.assertEqual(self.weight_said(sketch, ("at", "ring", "alike")), 4)
        self.assertEqual(self.weight_said(sketch, ("row", "ring", "at", "same")), 1)
        self.assertEqual(self.weight_said(sketch, ("same", "ring", "at")), 2)
