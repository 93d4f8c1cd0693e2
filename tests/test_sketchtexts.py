import copy
import random
import re
import unittest

from pointhouse.errors import NoText, PointError
from pointhouse.exacts import Exact
from pointhouse.sketchtexts import read_sketch, show_sketch
from pointhouse.steps import is_sketch
from tests.helper import NO_WHOLES, PATTERNS, SKETCHES, any_sketch, first_wrong, lines_as_sketch

CHANCE_SKETCHES = tuple(any_sketch(random.Random(seed), seed % 15) for seed in range(1000, 1150))
STEPS = {word: "{} {}".format(word, re.sub("[A-Z]", "[a-z]{1,8}", letters).replace("n", "[123]").replace("k", "[01]"))
         for word, letters in PATTERNS.items()}


def step_of(line):
    """The step that a line writes, by its form alone, or None."""
    word = line.partition(" ")[0]
    if word not in STEPS or not re.fullmatch(STEPS[word], line):
        return None
    return tuple(int(part) if part.isdigit() else part for part in line.split(" "))


def wanted_row(text):
    """The number of the first wrong line, None where there is none."""
    return first_wrong([step_of(line) for line in text.split("\n")]) if text else None


def texts_like(text):
    """Texts that are otherwise by one sign, or one line, than this one."""
    signs = " \nabz019A-.\t\r"
    for at in range(len(text) + 1):
        for sign in signs:
            yield text[:at] + sign + text[at:]
            yield text[:at] + sign + text[at + 1:]
        yield text[:at] + text[at + 1:]
        yield text[:at] + text[at:at + 1] + text[at:]
        yield text[:at] + text[at + 1:at + 2] + text[at:at + 1] + text[at + 2:]
    lines = text.split("\n")
    for at, line in enumerate(lines):
        yield "\n".join(lines[:at] + lines[at + 1:])
        yield "\n".join(lines[:at] + [line, line] + lines[at + 1:])
        yield "\n".join(lines[:at] + [line, ""] + lines[at + 1:])
        yield "\n".join(lines[:at] + [line.upper()] + lines[at + 1:])
        for to in range(at):
            yield "\n".join(lines[:to] + [line] + lines[to + 1:at] + [lines[to]] + lines[at + 1:])
            yield "\n".join(lines[:to] + [line] + lines[to:at] + lines[at + 1:])


class Texts(unittest.TestCase):
    def check_show(self, sketch):
        ahead = copy.deepcopy(sketch)
        told = show_sketch(sketch)
        self.assertIs(type(told), str)
        self.assertEqual(show_sketch(sketch=sketch), told)
        self.assertEqual(sketch, ahead)
        return told

    def check_read(self, text):
        told = read_sketch(text)
        self.assertEqual(read_sketch(text=text), told)
        self.assertIs(type(told), tuple)
        self.assertTrue(is_sketch(told))
        return told

    def check_refused(self, thing, row):
        ahead = copy.deepcopy(thing)
        for asked in (lambda: read_sketch(thing), lambda: read_sketch(text=thing)):
            with self.assertRaises(NoText) as caught:
                asked()
            self.assertIs(type(caught.exception), NoText)
            self.assertIs(type(caught.exception.row), int)
            self.assertEqual(caught.exception.row, row, thing)
        self.assertEqual(thing, ahead)

    def test_there_and_back(self):
        for sketch in SKETCHES + CHANCE_SKETCHES:
            text = self.check_show(sketch)
            self.assertEqual(text.count("\n"), max(len(sketch) - 1, 0))
            told = self.check_read(text)
            self.assertEqual(told, sketch)
            kinds = [[type(part) for part in step] for step in told]
            self.assertEqual(kinds, [[type(part) for part in step] for step in sketch])

    def test_told_ones(self):
        cases = {
            (): "",
            lines_as_sketch("free a"): "free a",
            (("free", "a"), ("free", "b")): "free a\nfree b",
            (("free", "a"), ("free", "b"), ("turn", "t", "a", "b", 3), ("middle", "m", "a", "b")):
                "free a\nfree b\nturn t a b 3\nmiddle m a b",
            (("free", "a"), ("free", "b"), ("line", "line", "b", "a"), ("circle", "k", "a", "b"),
             ("cross", "x", "line", "k", 0), ("cross", "y", "line", "k", 1)):
                "free a\nfree b\nline line b a\ncircle k a b\ncross x line k 0\ncross y line k 1",
        }
        for sketch, text in cases.items():
            self.assertEqual(self.check_show(sketch), text)
            self.assertEqual(self.check_read(text), sketch)

    def test_each_word(self):
        ahead = ("free a", "free b", "free c", "line l a b", "line m a c", "circle k c a")
        for row in ("free x", "on x l", "round x k", "meet x l m", "middle x a b", "foot x c l", "mirror x c l",
                    "turn x a b 1", "turn x a b 2", "turn x a b 3", "other x l k a", "cross x m k 0", "cross x m k 1",
                    "line x b c", "along x b m", "upright x b m", "circle x a c"):
            sketch = lines_as_sketch(*ahead, row)
            self.assertEqual(self.check_show(sketch), "\n".join(ahead + (row,)))
            self.assertEqual(self.check_read("\n".join(ahead + (row,))), sketch)

    def test_texts_alike_but_for_one_thing(self):
        met = {True: 0, False: 0}
        for sketch in SKETCHES[:5] + CHANCE_SKETCHES[4:9]:
            for text in texts_like(show_sketch(sketch)):
                row = wanted_row(text)
                met[row is None] += 1
                if row is None:
                    self.assertEqual(show_sketch(self.check_read(text)), text)
                else:
                    self.check_refused(text, row)
        self.assertGreater(min(met.values()), 500)

    def test_blanks_and_line_ends(self):
        cases = {
            " ": 0, "\n": 0, "  ": 0, "\n\n": 0, " \n": 0, "free a\n": 1, "\nfree a": 0, "free a ": 0, " free a": 0,
            "free  a": 0, "free a\n\nfree b": 1, "free a\nfree b\n": 2, "free a\nfree b\n\n": 2, "free a\n free b": 1,
            "free a\nfree b ": 1, "free a \nfree b": 0, "free a\r\nfree b": 0, "free a\rfree b": 0, "free\na": 0,
            "free a\tb": 0, "free\ta": 0, "free a\r": 0, "free a\nfree b\r": 1, "free a/free b": 0,
        }
        for text, row in cases.items():
            self.check_refused(text, row)

    def test_numbers_not_so_written(self):
        ahead = "free a\nfree b\nline l a b\ncircle k a b\n"
        rows = ("turn t a b 03", "turn t a b 30", "turn t a b 12", "turn t a b +1", "turn t a b -1", "turn t a b 0",
                "turn t a b 4", "turn t a b", "turn t a b ", "turn t a b 1 ", "turn t a b 1 1", "turn t a b one",
                "turn t a b c", "turn t a b a", "turn t a b 1.", "turn t a b 1_0", "turn t a b 1/1", "cross x l k 00",
                "cross x l k 01", "cross x l k 10", "cross x l k 2", "cross x l k -0", "cross x l k 3", "cross x l k",
                "cross x l k l", "cross 0 l k 0", "turn 1 a b 1", "turn t 1 b 1", "free 1", "free 0", "free a1",
                "cross x 1 k 1", "1 t a b 1", "0", "1", "3 x")
        for row in rows:
            self.check_refused(ahead + row, 4)
            self.check_refused(ahead + row + "\nfree z", 4)
        self.check_read(ahead + "turn t a b 3")
        self.check_read(ahead + "cross x l k 0")

    def test_one_clause_broken(self):
        ahead = "free a\nfree b\nline l a b\ncircle k a b\n"
        rows = ("free a", "free l", "on x k", "on x z", "round x l", "meet x l l", "middle x a a", "middle x a l",
                "foot x l a", "mirror x a k", "turn x a a 1", "other x l k a", "other x k l b", "line x a a",
                "along x a a", "upright x l a", "circle x a a", "circle x a l", "line x x a", "points x a b", "FREE x",
                "Free x", "free X", "free abcdefghi", "free", "", " ", "line x a", "line x a b c", "free x y", "on x l 1")
        for row in rows:
            self.check_refused(ahead + row, 4)
            self.check_refused(ahead + row + "\n" + row, 4)
        self.assertEqual(len(self.check_read(ahead + "other x l k b")), 5)

    def test_the_first_wrong_line(self):
        self.check_refused("free a\nfree b\nfree c c\nfree a\n", 2)
        self.check_refused("free a\nfree a\nfree c c", 1)
        self.check_refused("line l a b\nfree a\nfree b", 0)

    def test_what_is_no_text(self):
        things = [thing for thing in NO_WHOLES if not isinstance(thing, str)]
        things += [0, 1, 10 ** 60, Exact(1, 2), ("free a",), ["free a"], (("free", "a"),), {"free a": 1}, SKETCHES[2]]
        for thing in things:
            self.check_refused(thing, 0)
        deep = "free a"
        for _ in range(29):
            deep = [deep]
        self.check_refused(deep, 0)
        self.check_refused((("free", "a"),) * 10000, 0)

    def test_long_texts(self):
        letters = "abcdefghijklmnopqrstuvwxyz"
        rows = ["free " + one + two for one in letters for two in letters][:490]
        text = "\n".join(rows)
        self.assertLess(len(text), 4000)
        self.assertEqual(self.check_read(text), lines_as_sketch(*rows))
        self.check_refused(text + "\nfree ab", 490)
        self.check_refused("\n" * 4000, 0)
        self.check_refused("a" * 4000, 0)
        self.check_refused(" " * 4000, 0)
        self.check_refused("free " + "a" * 3995, 0)

    def test_the_refusal_stands_where_it_is_told(self):
        with self.assertRaises(PointError) as caught:
            read_sketch("free")
        self.assertIsInstance(caught.exception, ValueError)
        self.assertNotIsInstance(caught.exception, KeyError)
