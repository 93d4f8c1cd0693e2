import copy
import itertools
import random
import unittest

from pointhouse import errors
from pointhouse.boards import Board
from pointhouse.drawing import drawn, numbers_for
from pointhouse.exacts import Exact
from pointhouse.sayings import is_saying, is_so, is_so_by
from tests.anew import Circle, as_roots, first_two_roots, holds
from tests.helper import (
    NO_WHOLES, SAYINGS, SKETCHES, WITH_CROSSES, any_hand, chance_sketches, flat, hand_of, lines_as_sketch, sayings_of,
    sort_made,
)

FREE = lines_as_sketch("free a", "free b", "free c", "free d", "free e", "free f")
MIXED = lines_as_sketch("free a", "free b", "free c", "line l a b", "upright m c l", "circle k a c", "foot f c l",
                        "line n a c", "cross x l k 1")


class IsSaying(unittest.TestCase):
    def is_saying(self, sketch, thing):
        ahead = repr((sketch, thing))
        told = is_saying(sketch, thing)
        self.assertIs(type(told), bool)
        self.assertIs(is_saying(thing=thing, sketch=sketch), told)
        self.assertEqual(repr((sketch, thing)), ahead)
        return told

    def test_every_word(self):
        for sketch in SKETCHES[1:] + WITH_CROSSES:
            for saying in sayings_of(sketch, random.Random(7)):
                self.assertTrue(self.is_saying(sketch, saying), saying)

    def test_names_that_stand_twice(self):
        for word, many in SAYINGS.items():
            for names in itertools.product("ab", repeat=many):
                self.assertTrue(self.is_saying(FREE, (word, *names)))

    def test_at_of_each_sort(self):
        for p, t in itertools.product("abcfx", "lmnk"):
            self.assertTrue(self.is_saying(MIXED, ("at", p, t)))
        for p, t in [*itertools.product("abcfx", "abcfxoz"), *itertools.product("lmnko", "lmnkab")]:
            self.assertFalse(self.is_saying(MIXED, ("at", p, t)))
        self.assertFalse(self.is_saying(MIXED, ("at", "a")))
        self.assertFalse(self.is_saying(MIXED, ("at", "a", "l", "l")))
        self.assertFalse(self.is_saying(MIXED, ("at", "l", "a")))

    def test_names_that_are_not_there_or_of_another_sort(self):
        for word, many in SAYINGS.items():
            names = ("a", "b", "c", "f", "x", "a")[:many]
            self.assertTrue(self.is_saying(MIXED, (word, *names)))
            for at in range(many):
                for wrong in ("d", "aa", "", "l", "m", "k", "A", "a ", "free", "same", "abcdefghi") + NO_WHOLES:
                    self.assertFalse(self.is_saying(MIXED, (word, *names[:at], wrong, *names[at + 1:])), wrong)

    def test_names_more_or_fewer(self):
        for word, many in SAYINGS.items():
            for other in range(9):
                wanted = other == many
                self.assertEqual(self.is_saying(FREE, (word, *("abcdefab"[:other]))), wanted)

    def test_words(self):
        for word in ("unlike", "Same", "same ", "", "is", "on", "point", "rows", "line", "atat") + NO_WHOLES:
            for many in range(7):
                self.assertFalse(self.is_saying(FREE, (word, *"abcdef"[:many])), word)

    def test_other_kinds(self):
        for thing in NO_WHOLES + (0, 10 ** 59, "same a b", ["same", "a", "b"], {"same": "a"}, ("same", ["a", "b"]),
                                  ("same", ("a", "b")), (("same", "a", "b"),), [[]], "a" * 4000):
            for sketch in (FREE, MIXED, ()):
                self.assertFalse(self.is_saying(sketch, thing), thing)
        deep = ("same", "a")
        for _ in range(28):
            deep = (deep,)
        self.assertFalse(self.is_saying(FREE, deep))
        self.assertFalse(self.is_saying(FREE, ("same",) + ("a",) * 59000))
        self.assertFalse(self.is_saying((), ("same", "a", "a")))


class Asked(unittest.TestCase):
    def said(self, sketch, hand, saying):
        """True, False, None, or the fields of TwoRoots, of both functions and by places and names alike."""
        things = drawn(sketch, hand)
        ahead = copy.deepcopy((sketch, hand, things, saying))
        told = []
        for asked in (lambda: is_so(sketch, hand, saying), lambda: is_so(saying=saying, sketch=sketch, hand=hand),
                      lambda: is_so_by(sketch, things, saying),
                      lambda: is_so_by(things=things, saying=saying, sketch=sketch)):
            try:
                told.append(asked())
            except errors.TwoRoots as refused:
                self.assertIs(type(refused), errors.TwoRoots)
                told.append((refused.one, refused.other))
        self.assertEqual((sketch, hand, things, saying), ahead)
        self.assertEqual([(type(one), one) for one in told], [(type(told[0]), told[0])] * 4)
        return told[0]


def wanted(sketch, things, saying):
    """The same by tests.anew."""
    by_name = dict(zip([step[1] for step in sketch], things))
    named = [by_name[name] for name in saying[1:]]
    if None in named:
        return None
    roots = first_two_roots(flat(named))
    if roots is not None:
        return roots
    return holds(saying[0], [Circle(as_roots(thing)) if isinstance(thing[0], tuple) else as_roots(thing) for thing in named])


class Holding(Asked):
    def check(self, numbers, saying, holding, nearly=None):
        """It holds by these numbers of free points, and doesn't where one of them is a little otherwise."""
        sketch = FREE[:len(numbers) // 2]
        self.assertIs(self.said(sketch, hand_of(*numbers), saying), holding)
        for at in range(len(numbers)) if nearly is None else nearly:
            one = Exact(1, 999983)
            hand = hand_of(*numbers)
            hand = hand[:at] + (hand[at].plus(one),) + hand[at + 1:]
            self.assertIs(self.said(sketch, hand, saying), False, at)

    def test_same(self):
        self.check((1, "1/2", 1, "1/2"), ("same", "a", "b"), True)
        self.check((1, 2, 2, 1), ("same", "a", "b"), False)
        self.check((1, 2, 1, 3), ("same", "b", "a"), False)
        self.check((1, 2, 0, 2), ("same", "a", "b"), False)
        self.check((1, 2), ("same", "a", "a"), True, ())

    def test_row(self):
        self.check((0, 0, 2, 1, 6, 3), ("row", "a", "b", "c"), True)
        self.check((0, 0, 2, 1, 6, 3), ("row", "c", "a", "b"), True)
        self.check((0, 1, 2, 1, 6, 1), ("row", "a", "b", "c"), True, (1, 3, 5))
        self.check((0, 0, 2, 1, 6, 4), ("row", "a", "b", "c"), False)
        # Points that are one are on one line with any other.
        self.check((4, 4, 4, 4, -1, 0), ("row", "a", "b", "c"), True, range(4))
        for names in itertools.product("ab", repeat=3):
            self.check((4, 4, 5, 6), ("row", *names), True, ())

    def test_along_and_upright(self):
        self.check((0, 0, 2, 1, 1, 1, 5, 3), ("along", "a", "b", "c", "d"), True)
        self.check((0, 0, 2, 1, 5, 3, 1, 1), ("along", "a", "b", "c", "d"), True)
        self.check((0, 0, 2, 1, 1, 1, 5, 4), ("along", "a", "b", "c", "d"), False)
        self.check((0, 0, 2, 1, 1, 1, 2, -1), ("upright", "a", "b", "c", "d"), True)
        self.check((0, 0, 2, 1, 1, 1, 2, 3), ("upright", "a", "b", "c", "d"), False)
        self.check((0, 0, 2, 1, 0, 0, 4, 2), ("upright", "a", "b", "c", "d"), False)
        self.check((0, 0, 2, 1, 1, 1, 2, -1), ("along", "a", "b", "c", "d"), False)

    def test_ways_of_nought(self):
        for word in ("along", "upright"):
            self.check((3, 3, 3, 3, 1, 1, 2, 7), (word, "a", "b", "c", "d"), True, range(4))
            self.check((1, 1, 2, 7, 3, 3, 3, 3), (word, "a", "b", "c", "d"), True, range(4, 8))
            self.check((3, 3, 1, 2), (word, "a", "a", "b", "a"), True, ())
            self.check((3, 3, 1, 2), (word, "a", "b", "b", "b"), True, ())
        self.check((3, 3, 1, 2), ("alike", "a", "a", "b", "a"), False, ())
        self.check((3, 3, 1, 2), ("alike", "a", "a", "b", "b"), True, ())
        self.check((3, 3, 3, 3, 1, 2), ("alike", "a", "b", "c", "c"), True, range(4))
        self.check((3, 3, 1, 2, 5, 6), ("angle", "a", "a", "b", "c", "b", "a"), True, ())
        self.check((3, 3, 1, 2, 5, 6), ("angle", "a", "b", "c", "c", "b", "b"), True, ())
        self.check((3, 3, 1, 2, 5, 6), ("ring", "a", "b", "c", "c"), True, ())
        self.check((3, 3, 1, 2, 5, 6), ("ring", "a", "a", "b", "c"), True, ())

    def test_alike(self):
        self.check((0, 0, 3, 4, 1, 1, 6, 1), ("alike", "a", "b", "c", "d"), True, range(7))
        self.check((0, 0, 3, 4, 1, 1, 6, 2), ("alike", "a", "b", "c", "d"), False)
        self.check((0, 0, 1, 2, 2, -1), ("alike", "a", "b", "c", "a"), True)
        self.check((0, 0, 1, 2), ("alike", "a", "b", "b", "a"), True, ())
        self.check((0, 0, 1, 1, 0, 2), ("alike", "a", "b", "a", "c"), False)

    def test_angle(self):
        angle = ("angle", "a", "b", "c", "d", "e", "f")
        self.check((2, 0, 0, 0, 3, 3, 5, 6, 5, 5, 4, 6), angle, True, (1, 2, 3, 4, 5, 6, 8, 9, 10, 11))
        # Half a right angle leftwards and one rightwards.
        self.check((2, 0, 0, 0, 3, 3, 4, 6, 5, 5, 5, 6), angle, False)
        # Angles count but for half turns, so right ones are alike whichever way they turn, and so are straight ones.
        self.check((2, 0, 0, 0, 0, 7, 9, 5, 5, 5, 5, 6), angle, True, (1, 2, 3, 4, 7, 8, 9, 10))
        self.check((0, 7, 0, 0, 2, 0, 9, 5, 5, 5, 5, 6), angle, True, (0, 2, 3, 5, 7, 8, 9, 10))
        self.check((2, 0, 0, 0, 3, 3, 5, 4, 5, 5, 4, 6), angle, True, (1, 2, 3, 4, 5, 6, 8, 9, 10, 11))
        self.check((2, 0, 0, 0, 3, 3, 5, 4, 5, 5, 4, 7), angle, False)
        self.check((2, 0, 0, 0, 3, 0, 9, 6, 5, 5, 1, 4), angle, True, (1, 3, 5, 6, 7, 8, 9, 10, 11))

    def test_ring(self):
        ring = ("ring", "a", "b", "c", "d")
        self.check((5, 0, 3, 4, -4, 3, 0, -5), ring, True)
        self.check((5, 0, 3, 4, -4, 3, 0, -4), ring, False)
        self.check((5, 0, 0, -5, -4, 3, 3, 4), ring, True)
        self.check((0, 0, 1, 2, 2, 4, -3, -6), ring, True)
        self.check((0, 0, 1, 2, 2, 4, -3, -5), ring, False)

    def test_at_a_line(self):
        sketch = FREE[:3] + lines_as_sketch("line l a b", "circle k a b")
        for numbers, wanted in (((0, 0, 2, 1, 4, 2), True), ((0, 0, 2, 1, 4, 3), False), ((1, 0, 1, 5, 1, -9), True),
                                ((1, 0, 1, 5, 2, -9), False), ((0, 4, 7, 4, "1/3", 4), True), ((0, 4, 7, 4, 1, "1/3"), False)):
            self.assertIs(self.said(sketch, hand_of(*numbers), ("at", "c", "l")), wanted)
            self.assertIs(self.said(sketch, hand_of(*numbers), ("at", "a", "l")), True)
            self.assertIs(self.said(sketch, hand_of(*numbers), ("at", "b", "l")), True)

    def test_at_a_circle(self):
        sketch = FREE[:3] + lines_as_sketch("line l a b", "circle k a b")
        for numbers, wanted in (((0, 0, 3, 4, -5, 0), True), ((0, 0, 3, 4, -5, 1), False), ((1, 1, 2, 2, 2, 0), True),
                                ((1, 1, 2, 2, 1, 1), False), ((0, 0, 1, "1/2", "1/2", -1), True)):
            self.assertIs(self.said(sketch, hand_of(*numbers), ("at", "c", "k")), wanted)
            self.assertIs(self.said(sketch, hand_of(*numbers), ("at", "b", "k")), True)
            self.assertIs(self.said(sketch, hand_of(*numbers), ("at", "a", "k")), False)

    def test_things_that_are_not_there(self):
        sketch = lines_as_sketch("free a", "free b", "free c", "line l a b", "circle k a b", "foot f c l")
        gone, there = hand_of(1, 1, 1, 1, 3, 4), hand_of(1, 1, 2, 1, 3, 4)
        for saying in (("at", "c", "l"), ("at", "c", "k"), ("same", "f", "f"), ("row", "a", "f", "b"), ("alike", "a", "b", "c", "f"),
                       ("angle", "a", "b", "c", "a", "f", "c"), ("ring", "a", "b", "c", "f"), ("along", "f", "a", "b", "b"),
                       ("upright", "a", "f", "a", "b")):
            self.assertIsNone(self.said(sketch, gone, saying))
            self.assertIsNotNone(self.said(sketch, there, saying))
        self.assertIs(self.said(sketch, gone, ("same", "a", "b")), True)
        self.assertIs(self.said(sketch, gone, ("row", "a", "b", "c")), True)


class Roots(Asked):
    # By the hand x is (-r3, 1), y is (r3/2, 1), z is (r3, 1), w is (-r12, 1).
    SKETCH = lines_as_sketch("free o", "free p", "free q", "free r", "free a", "free b", "line l a b", "circle k o p",
                             "circle j o q", "circle i o r", "cross x l k 0", "cross y l j 1", "cross z l k 1",
                             "cross w l i 0", "line m x o", "circle h o x", "circle g x a", "circle f y a")
    HAND = hand_of(0, 0, 2, 0, "3/2", "1/2", 3, 2, 0, 1, 1, 1)

    def check(self, saying, told):
        self.assertEqual(self.said(self.SKETCH, self.HAND, saying), told, saying)

    def test_two_roots_in_order(self):
        self.assertEqual([str(number) for number in flat(drawn(self.SKETCH, self.HAND)[10:14])],
                         ["0-r3", "1", "0+r3/2", "1", "0+r3", "1", "0-r12", "1"])
        two, three, twelve = (3, 2), (3, 1), (12, 1)
        cases = [
            (("same", "x", "y"), three, two), (("same", "y", "x"), two, three), (("row", "x", "z", "y"), three, two),
            (("row", "w", "y", "x"), twelve, two), (("row", "y", "w", "x"), two, twelve), (("along", "o", "w", "x", "y"), twelve, two),
            (("alike", "a", "y", "o", "w"), two, twelve), (("ring", "x", "w", "z", "y"), three, two),
            (("angle", "a", "o", "b", "z", "w", "y"), three, two), (("at", "y", "m"), two, three), (("at", "x", "f"), three, two),
            (("at", "y", "g"), two, three), (("upright", "x", "x", "y", "y"), three, two), (("same", "y", "w"), two, twelve),
        ]
        for saying, one, other in cases:
            self.check(saying, (one, other))

    def test_roots_that_go_together(self):
        for saying, told in (
                (("same", "x", "z"), False), (("same", "x", "x"), True), (("row", "x", "z", "w"), True),
                (("row", "x", "z", "o"), False), (("alike", "o", "x", "o", "z"), True), (("alike", "o", "x", "o", "w"), False),
                (("alike", "o", "x", "o", "p"), True), (("at", "x", "m"), True), (("at", "z", "m"), False), (("at", "z", "h"), True),
                (("at", "z", "k"), True), (("at", "w", "k"), False), (("at", "y", "l"), True), (("at", "a", "g"), True),
                (("along", "x", "w", "a", "b"), True), (("upright", "o", "x", "o", "z"), False)):
            self.check(saying, told)

    def test_none_goes_ahead_of_roots(self):
        sketch = self.SKETCH + lines_as_sketch("line n x y", "circle e x y", "meet s n m")
        for saying in (("at", "x", "n"), ("row", "x", "y", "s"), ("at", "y", "e")):
            self.assertIsNone(self.said(sketch, self.HAND, saying))

    def test_angles_by_roots(self):
        # A triangle of sides alike: all its angles are alike, and half of one is a sixth of a half turn.
        sketch = lines_as_sketch("free a", "free b", "middle m a b", "line l a b", "upright u m l", "circle k a b",
                                 "cross c u k 1", "cross d u k 0", "foot f a u")
        for hand in (hand_of(0, 0, 2, 0), hand_of(1, 1, 2, 4), hand_of("1/2", 0, -3, 7)):
            self.assertIs(self.said(sketch, hand, ("alike", "a", "b", "b", "c")), True)
            for saying in (("angle", "a", "b", "c", "b", "c", "a"), ("angle", "a", "b", "c", "c", "a", "b"),
                           ("angle", "c", "b", "a", "a", "b", "d"), ("ring", "c", "c", "d", "a"), ("row", "c", "d", "m"),
                           ("same", "f", "m"), ("upright", "c", "d", "a", "b"), ("along", "c", "a", "b", "d")):
                self.assertIs(self.said(sketch, hand, saying), True, saying)
            for saying in (("angle", "a", "b", "c", "b", "a", "c"), ("angle", "a", "b", "c", "a", "c", "m"),
                           ("ring", "a", "b", "c", "d"), ("alike", "a", "b", "c", "d"), ("along", "c", "a", "a", "d")):
                self.assertIs(self.said(sketch, hand, saying), False, saying)


class Anew(Asked):
    def test_said_the_same_another_way(self):
        met = {}
        for chance, sketch in chance_sketches(7000, 7300):
            hand = any_hand(chance, numbers_for(sketch))
            if not any(sort_made(step) == "point" for step in sketch):
                continue
            for saying in sayings_of(sketch, chance):
                told = self.said(sketch, hand, saying)
                self.assertEqual(told, wanted(sketch, drawn(sketch, hand), saying), (sketch, hand, saying))
                kind = "roots" if isinstance(told, tuple) else told
                met[saying[0], kind] = met.get((saying[0], kind), 0) + 1
        for word in [*SAYINGS, "at"]:
            for kind in (True, False, None):
                self.assertGreater(met[word, kind], 10, (word, kind))
        self.assertGreater(sum(many for (_, kind), many in met.items() if kind == "roots"), 2)

    def test_by_a_board(self):
        # What crosses stand at by their choices, and not by their steps' own numbers.
        met = {True: 0, False: 0}
        for chance, sketch in chance_sketches(7500, 7600):
            names = [step[1] for step in sketch if step[0] == "cross"]
            if names:
                hand = any_hand(chance, numbers_for(sketch))
                board = Board(sketch, hand, choices=tuple((name, chance.randint(0, 1)) for name in names))
                for saying in sayings_of(sketch, chance):
                    try:
                        told = is_so_by(sketch, board.things(), saying)
                    except errors.TwoRoots as refused:
                        told = refused.one, refused.other
                    self.assertEqual(told, wanted(sketch, board.things(), saying))
                    try:
                        met[told == is_so(sketch, hand, saying)] += 1
                    except errors.TwoRoots as refused:
                        met[told == (refused.one, refused.other)] += 1
        self.assertGreater(min(met.values()), 20)

    def test_a_drawing_handed_in(self):
        sketch = lines_as_sketch("free o", "free p", "free a", "free b", "line l a b", "circle k o p", "cross x l k 0")
        board = Board(sketch, hand_of(0, 0, 5, 0, -9, 3, 9, 3), choices=(("x", 1),))
        self.assertIs(is_so(sketch, board.hand(), ("angle", "p", "o", "x", "x", "o", "p")), False)
        for saying in (("alike", "o", "x", "o", "p"), ("at", "x", "k"), ("at", "x", "l")):
            self.assertIs(is_so_by(sketch, board.things(), saying), True)
            self.assertIs(is_so(sketch, board.hand(), saying), True)
        board = Board(sketch, hand_of(0, 0, 5, 0, -9, 3, 4, 3), choices=(("x", 1),))
        self.assertIs(is_so_by(sketch, board.things(), ("same", "x", "b")), True)
        self.assertIs(is_so(sketch, board.hand(), ("same", "x", "b")), False)
