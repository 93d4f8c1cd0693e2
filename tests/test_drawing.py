import copy
import random
import unittest

from pointhouse.drawing import drawn, is_hand, numbers_for
from pointhouse.exacts import Exact
from pointhouse.steps import hanging
from tests.anew import Drawer
from tests.helper import (
    NO_WHOLES, OWN, PATTERNS, SKETCHES, any_hand, any_sketch, chance_sketches, exact, flat, hand_of, lines_as_sketch,
    place, root,
)


def circle(x, y, square):
    return place(x, y), exact(square)


class Asked(unittest.TestCase):
    def drawn(self, sketch, hand):
        ahead = copy.deepcopy((sketch, hand))
        told = drawn(sketch, hand)
        self.assertIs(type(told), tuple)
        self.assertEqual(len(told), len(sketch))
        self.assertEqual(drawn(hand=hand, sketch=sketch), told)
        self.assertEqual((sketch, hand), ahead)
        return told

    def last(self, rows, *numbers):
        """What the last of these rows makes."""
        return self.drawn(lines_as_sketch(*rows), hand_of(*numbers))[-1]


class Hands(unittest.TestCase):
    def is_hand(self, sketch, thing):
        ahead = repr((sketch, thing))
        told = is_hand(sketch, thing)
        self.assertIs(type(told), bool)
        self.assertIs(is_hand(thing=thing, sketch=sketch), told)
        self.assertEqual(repr((sketch, thing)), ahead)
        return told

    def test_how_many_numbers(self):
        for sketch in SKETCHES + tuple(any_sketch(random.Random(seed), 14) for seed in range(50)):
            wanted = sum(OWN.get(step[0], 0) for step in sketch)
            self.assertEqual(numbers_for(sketch), wanted)
            self.assertEqual(numbers_for(sketch=sketch), wanted)
            self.assertIs(type(numbers_for(sketch)), int)

    def test_of_each_word(self):
        ahead = ("free a", "free b", "free c", "line l a b", "line m a c", "circle k b a")
        self.assertEqual(numbers_for(()), 0)
        self.assertEqual(numbers_for(lines_as_sketch(*ahead)), 6)
        rows = {"free": "x", "on": "x l", "round": "x k", "meet": "x l m", "middle": "x a b", "foot": "x c l",
                "mirror": "x c l", "turn": "x a b 1", "other": "x l k a", "cross": "x l k 0", "line": "x b c",
                "along": "x c l", "upright": "x c l", "circle": "x c a"}
        for word in PATTERNS:
            sketch = lines_as_sketch(*ahead, f"{word} {rows[word]}")
            self.assertEqual(numbers_for(sketch), 6 + OWN.get(word, 0), word)
            self.assertTrue(self.is_hand(sketch, hand_of(*range(6 + OWN.get(word, 0)))))
            self.assertFalse(self.is_hand(sketch, hand_of(*range(7 + OWN.get(word, 0)))))
            self.assertFalse(self.is_hand(sketch, hand_of(*range(5 + OWN.get(word, 0)))))

    def test_hands_and_such_with_one_thing_otherwise(self):
        for sketch in SKETCHES:
            many = numbers_for(sketch)
            hand = hand_of(*range(-1, many - 1))
            self.assertTrue(self.is_hand(sketch, hand))
            self.assertTrue(self.is_hand(sketch, tuple(Exact(3, 7) for _ in hand)))
            self.assertFalse(self.is_hand(sketch, hand + (exact(0),)))
            self.assertFalse(self.is_hand(sketch, list(hand)))
            self.assertFalse(self.is_hand(sketch, {number.top: number for number in hand} or {0: 0}))
            if many:
                self.assertFalse(self.is_hand(sketch, hand[1:]))
            for at in range(many):
                for wrong in (root(2), root(5, 4, top=1, sign=-1), 1, 0, -3, True, False, None, "1", "", [], [exact(1)],
                              (exact(1),), (), {}, {"a": exact(1)}, ((1, 2), 3)):
                    self.assertFalse(self.is_hand(sketch, hand[:at] + (wrong,) + hand[at + 1:]), wrong)
                self.assertTrue(self.is_hand(sketch, hand[:at] + (Exact(1, sign=1, over=4),) + hand[at + 1:]))

    def test_other_kinds(self):
        for sketch in SKETCHES:
            for thing in NO_WHOLES + (0, 1, -1, 10 ** 59, [[]], ((),), "free a", (None,) * numbers_for(sketch or "x")):
                wanted = thing == () and type(thing) is tuple and sketch == ()
                self.assertEqual(self.is_hand(sketch, thing), wanted, thing)
        deep = ()
        for _ in range(29):
            deep = (deep,)
        self.assertFalse(self.is_hand(SKETCHES[1], deep))
        self.assertFalse(self.is_hand(SKETCHES[1], (exact(1),) * 60000))


class Points(Asked):
    def test_free(self):
        self.assertEqual(self.drawn((), ()), ())
        self.assertEqual(self.drawn(lines_as_sketch("free a"), hand_of("1/2", -3)), (place("1/2", -3),))
        self.assertEqual(self.drawn(lines_as_sketch("free a", "free b"), hand_of(0, 0, 0, 0)), (place(0, 0),) * 2)

    def test_on_by_points(self):
        rows = ("free a", "free b", "line l a b", "on p l")
        for t, wanted in ((0, (1, 2)), (1, (4, -2)), (2, (7, -6)), (-1, (-2, 6)), ("1/2", ("5/2", 0)), ("-1/3", (0, "10/3"))):
            self.assertEqual(self.last(rows, 1, 2, 4, -2, t), place(*wanted), t)
        self.assertEqual(self.last(rows, 1, 2, -5, 2, "1/3"), place(-1, 2))
        self.assertEqual(self.last(rows, 1, 2, 1, 5, "2/3"), place(1, 4))
        turned = ("free a", "free b", "line l b a", "on p l")
        self.assertEqual(self.last(turned, 1, 2, 4, -2, 1), place(1, 2))
        self.assertEqual(self.last(turned, 1, 2, 4, -2, 2), place(-2, 6))

    def test_on_by_along_and_upright(self):
        ahead = ("free a", "free b", "free c", "line l a b")
        for t, along, upright in ((0, (7, 7), (7, 7)), (1, (10, 11), (3, 10)), (-1, (4, 3), (11, 4)),
                                  ("1/3", (8, "25/3"), ("17/3", 8))):
            self.assertEqual(self.last(ahead + ("along m c l", "on p m"), 1, 2, 4, 6, 7, 7, t), place(*along))
            self.assertEqual(self.last(ahead + ("upright m c l", "on p m"), 1, 2, 4, 6, 7, 7, t), place(*upright))
            # Two right angles leftwards turn the way round.
            twice = ("upright m c l", "upright n c m", "on p n")
            back = tuple(exact(14).minus(number) for number in place(*along))
            self.assertEqual(self.last(ahead + twice, 1, 2, 4, 6, 7, 7, t), back)
            mixed = ("upright m a l", "along n b m", "along o c n", "on p o")
            self.assertEqual(self.last(ahead + mixed, 1, 2, 4, 6, 7, 7, t), place(*upright))

    def test_round(self):
        rows = ("free o", "free p", "circle k o p", "round r k")
        for t, wanted in ((0, (3, 2)), (1, (1, 4)), (-1, (1, 0)), (2, ("-1/5", "18/5")), ("1/2", ("11/5", "18/5")),
                          (-3, ("-3/5", "4/5"))):
            self.assertEqual(self.last(rows, 1, 2, 3, 2, t), place(*wanted), t)
        self.assertEqual(self.last(rows, 0, 0, 1, 2, 1), place(-2, 1))

    def test_meet(self):
        rows = ("free a", "free b", "free c", "free d", "line l a b", "line m c d", "meet x l m")
        self.assertEqual(self.last(rows, 0, 0, 2, 2, 0, 1, 1, 0), place("1/2", "1/2"))
        self.assertEqual(self.last(rows, 0, -3, 5, -3, 2, 0, 2, 9), place(2, -3))
        self.assertEqual(self.last(rows, 0, 0, 1, 3, 0, 0, 5, -1), place(0, 0))
        self.assertIsNone(self.last(rows, 0, 0, 1, 3, 1, 1, 2, 4))
        self.assertIsNone(self.last(rows, 0, 0, 1, 3, 2, 6, -1, -3))
        self.assertIsNone(self.last(rows, 0, 0, 1, 0, 2, 6, -1, 6))
        self.assertIsNone(self.last(rows, 0, 0, 0, 4, 2, 6, 2, 7))

    def test_middle_foot_mirror(self):
        self.assertEqual(self.last(("free a", "free b", "middle m a b"), 1, 2, 4, -2), place("5/2", 0))
        self.assertEqual(self.last(("free a", "free b", "middle m a b"), 1, 2, 1, 2), place(1, 2))
        ahead = ("free a", "free b", "free c", "line l a b")
        for numbers, foot, mirror in (
                ((0, 0, 1, 0, 3, 4), (3, 0), (3, -4)), ((0, 0, 0, -2, 3, 4), (0, 4), (-3, 4)),
                ((0, 0, 1, 1, 3, 4), ("7/2", "7/2"), (4, 3)), ((1, 2, 3, 3, 0, 0), ("-3/5", "6/5"), ("-6/5", "12/5")),
                ((0, 0, 1, 1, 5, 5), (5, 5), (5, 5))):
            self.assertEqual(self.last(ahead + ("foot f c l",), *numbers), place(*foot))
            self.assertEqual(self.last(ahead + ("mirror f c l",), *numbers), place(*mirror))

    def test_turn(self):
        for many, wanted in ((1, (-1, 4)), (2, (-2, 1)), (3, (1, 0))):
            rows = ("free p", "free o", f"turn x p o {many}")
            self.assertEqual(self.last(rows, 2, 3, 0, 2), place(*wanted))
            self.assertEqual(self.last(rows, 5, "1/2", 5, "1/2"), place(5, "1/2"))
        self.assertEqual(self.last(("free p", "free o", "turn x p o 1"), 1, 0, 0, 0), place(0, 1))

    def test_other(self):
        ahead = ("free o", "free p", "free q", "line l p q", "circle k o p")
        # Beside the middle, through it, touching, level and upright lines.
        for numbers, wanted in (
                ((0, 0, 5, 0, 4, 3), (4, 3)), ((0, 0, 5, 0, 9, 0), (-5, 0)), ((0, 0, 5, 0, 5, 1), (5, 0)),
                ((0, 0, 3, 4, -9, 4), (-3, 4)), ((0, 0, 3, 4, 3, 0), (3, -4)), ((1, 1, 3, 1, 2, 0), (1, -1))):
            self.assertEqual(self.last(ahead + ("other x l k p",), *numbers), place(*wanted), numbers)
            self.assertEqual(self.last(ahead[:3] + ("line l q p", "circle k o p", "other x l k p"), *numbers), place(*wanted))
        rows = ("free o", "free p", "free a", "line m o a", "along l p m", "circle k o p", "other x l k p")
        self.assertEqual(self.last(rows, 0, 0, 3, 4, 1, 0), place(-3, 4))
        rows = ("free o", "free p", "free a", "line m o a", "upright l p m", "circle k o p", "other x l k p")
        self.assertEqual(self.last(rows, 0, 0, 3, 4, 1, 0), place(3, -4))

    def test_cross(self):
        rows = ("free a", "free b", "free o", "free p", "line l a b", "circle k o p")
        first, second = rows + ("cross x l k 0",), rows + ("cross x l k 1",)
        cases = [
            ((-9, 3, 9, 3, 0, 0, 5, 0), place(-4, 3), place(4, 3)), ((3, 0, 3, 1, 0, 0, 5, 0), place(3, -4), place(3, 4)),
            ((0, 0, 1, 1, 0, 0, 1, 0), (root(1, 2, sign=-1),) * 2, (root(1, 2),) * 2),
            ((0, 0, 1, -1, 0, 0, 1, 0), (root(1, 2), root(1, 2, sign=-1)), (root(1, 2, sign=-1), root(1, 2))),
            ((0, 1, 1, 1, 0, 0, 2, 0), place(root(3, sign=-1), 1), place(root(3), 1)),
            ((0, 5, 1, 5, 0, 0, 5, 0), place(0, 5), place(0, 5)), ((-5, 0, -5, 1, 0, 0, 5, 0), place(-5, 0), place(-5, 0)),
            ((0, 6, 1, 6, 0, 0, 5, 0), None, None), ((0, 1, 1, 0, 9, 9, 9, 8), None, None),
        ]
        for numbers, lower, upper in cases:
            self.assertEqual(self.last(first, *numbers), lower, numbers)
            self.assertEqual(self.last(second, *numbers), upper, numbers)


class LinesAndCircles(Asked):
    def test_lines(self):
        rows = ("free a", "free b", "line l a b")
        for numbers, wanted in (((0, 1, 1, 0), (1, 1, 1)), ((0, 3, 5, 3), (0, 1, 3)), ((2, 3, 2, -1), (1, 0, 2)),
                                ((0, 0, 2, 1), (1, -2, 0)), (("1/2", 0, 0, "1/3"), (1, "3/2", "1/2"))):
            self.assertEqual(self.last(rows, *numbers), hand_of(*wanted))
            self.assertEqual(self.last(("free a", "free b", "line l b a"), *numbers), hand_of(*wanted))
        self.assertIsNone(self.last(rows, 1, "1/2", 1, "1/2"))

    def test_along_and_upright(self):
        ahead = ("free a", "free b", "free c", "line l a b")
        for numbers, along, upright in (
                ((0, 1, 1, 0, 5, 5), (1, 1, 10), (1, -1, 0)), ((0, 3, 5, 3, 2, -4), (0, 1, -4), (1, 0, 2)),
                ((2, 3, 2, -1, "1/2", 7), (1, 0, "1/2"), (0, 1, 7)), ((0, 0, 2, 1, 0, 0), (1, -2, 0), (1, "1/2", 0))):
            self.assertEqual(self.last(ahead + ("along m c l",), *numbers), hand_of(*along))
            self.assertEqual(self.last(ahead + ("upright m c l",), *numbers), hand_of(*upright))

    def test_circles(self):
        rows = ("free o", "free p", "circle k o p")
        self.assertEqual(self.last(rows, 1, 2, 4, 6), circle(1, 2, 25))
        self.assertEqual(self.last(rows, 0, 0, "-1/2", "1/3"), circle(0, 0, "13/36"))
        self.assertIsNone(self.last(rows, 1, 2, 1, 2))


class Undone(Asked):
    def check(self, sketch, hand, undone):
        """Just the steps of these names can't be done; the rest is as it is where each is drawn without them."""
        told = self.drawn(sketch, hand)
        self.assertEqual([step[1] for step, thing in zip(sketch, told) if thing is None], undone.split())
        self.assertEqual(told, Drawer(sketch, hand).told())

    def test_points_that_are_one(self):
        sketch = lines_as_sketch("free a", "free b", "free c", "line l a b", "line m a c", "circle k a b", "circle j a c",
                                 "foot f c l", "middle n a b", "on p l", "on q m", "round r k", "line o f c", "turn t f a 1",
                                 "upright u c l", "along v b m")
        self.check(sketch, hand_of(1, 1, 1, 1, 2, 5, 3, 3, 3), "l k f p r o t u")
        self.check(sketch, hand_of(1, 1, 2, 1, 2, 5, 3, 3, 3), "")
        self.check(sketch, hand_of(1, 1, 2, 1, 1, 1, 3, 3, 3), "m j q o v")
        self.check(sketch, hand_of(1, 1, 1, 1, 1, 1, 3, 3, 3), "l m k j f p q r o t u v")

    def test_lines_along_one_another(self):
        sketch = lines_as_sketch("free a", "free b", "free c", "free d", "line l a b", "line m c d", "meet x l m",
                                 "middle y x a", "circle k y b", "upright u c m", "meet z u m")
        self.check(sketch, hand_of(0, 0, 1, 0, 0, 1, 1, 1), "x y k")
        self.check(sketch, hand_of(0, 0, 1, 0, 2, 0, 3, 0), "x y k")
        self.check(sketch, hand_of(0, 0, 1, 0, 3, 0, 4, 1), "")

    def test_crosses_without_meets(self):
        sketch = lines_as_sketch("free a", "free b", "free c", "line l a b", "circle k c a", "upright u c l", "along m c u",
                                 "cross x l k 0", "turn y c b 2", "along n y l", "cross z n k 1", "middle w z a")
        self.check(sketch, hand_of(0, 0, 1, 0, 0, 5), "z w")
        self.check(sketch, hand_of(0, 0, 1, 4, 0, 5), "")
        sketch = lines_as_sketch("free a", "free b", "free c", "free d", "line l a b", "circle k c d", "cross x l k 0",
                                 "middle w x a", "line o w b", "on p l", "on q o")
        self.check(sketch, hand_of(0, 9, 1, 9, 0, 0, 1, 0, 4, 4), "x w o q")
        self.check(sketch, hand_of(0, 1, 1, 1, 0, 0, 1, 0, 4, 4), "")
        self.check(sketch, hand_of(0, 0, 1, 1, 0, 0, 1, 0, 4, 4), "")

    def test_crosses_of_what_has_roots(self):
        # x is (-r3, 1): lines and circles by it may have roots, and may have none.
        sketch = lines_as_sketch("free a", "free b", "free c", "free d", "line l a b", "circle k c d", "cross x l k 0",
                                 "line m x c", "cross y m k 0", "cross z m k 1", "circle j x d", "cross v l j 0",
                                 "foot f x l", "upright u x l", "cross w u k 1", "circle i c x", "cross s l i 1")
        self.check(sketch, hand_of(-9, 1, 9, 1, 0, 0, 2, 0), "y z v w")
        self.check(sketch, hand_of(-9, 0, 9, 0, 0, 0, 2, 0), "")
        self.check(sketch, hand_of(-9, 1, 9, 1, 0, 0, 0, 1), "j v")

    def test_roots_that_do_not_go_together(self):
        # x is by the root of 3, y by that of 2 or, by another hand, of 12, and o is plain.
        ahead = ("free o", "free p", "free q", "free a", "free b", "line l a b", "circle k o p", "circle j o q",
                 "cross x l k 0", "cross y l j 1")
        rows = {
            "middle n x y": "n", "turn n x y 1": "n", "turn n x o 1": "", "line n x y": "n", "circle n x y": "n",
            "line n x o": "", "circle n y o": "", "middle n o y": "", "foot n o l": "",
        }
        apart, together = (0, 0, 2, 0, "3/2", "1/2", -3, 1, 3, 1), (0, 0, 2, 0, 2, 3, -3, 1, 3, 1)
        for row, undone in rows.items():
            self.check(lines_as_sketch(*ahead, row), hand_of(*apart), undone)
            self.check(lines_as_sketch(*ahead, row), hand_of(*together), "")
        lines = ahead + ("line m x o", "line n y o", "along f x l", "along g y m")
        self.check(lines_as_sketch(*lines), hand_of(*apart), "g")
        for row in ("meet w m n", "foot w x n", "mirror w y m", "upright w x n", "along w x n"):
            self.check(lines_as_sketch(*lines, row), hand_of(*apart), "g w")
            self.check(lines_as_sketch(*lines, row), hand_of(*together), "")
        for row in ("meet w l m", "foot w y l", "mirror w x f", "upright w o n"):
            self.check(lines_as_sketch(*lines, row), hand_of(*apart), "g")

    def test_on_by_ways_with_roots(self):
        # The line l is level, so its numbers are plain, but its way is by the root of 3; z is by that of 2.
        sketch = lines_as_sketch("free o", "free p", "free q", "free a", "free b", "line h a b", "circle k o p",
                                 "circle j o q", "cross x h k 0", "cross y h k 1", "line l x y", "cross z h j 1",
                                 "along m z l", "on s m", "upright n z l", "on t n", "on u l", "along e o l", "on v e")
        numbers = (0, 0, 2, 0, "3/2", "1/2", -3, 1, 3, 1)
        self.check(sketch, hand_of(*numbers, 1, 0, 5, 1), "s")
        self.check(sketch, hand_of(*numbers, 0, "-1/2", 5, 1), "t")
        self.check(sketch, hand_of(*numbers, 0, 0, 5, 1), "")
        self.check(sketch, hand_of(0, 0, 2, 0, 2, 3, -3, 1, 3, 1, 1, 1, 5, 1), "")

    def test_other_with_roots(self):
        # The line's and the circle's numbers, and those of the point, all go together or not.
        ahead = ("free o", "free p", "free q", "free a", "free b", "line h a b", "circle k o p", "circle j o q",
                 "cross x h k 0", "cross y h j 1", "line l x o", "circle i o x", "other w l i x", "circle e y x",
                 "along m x h", "other v m e x", "other u m i x")
        self.check(lines_as_sketch(*ahead), hand_of(0, 0, 2, 0, "3/2", "1/2", -3, 1, 3, 1), "e v")
        self.check(lines_as_sketch(*ahead), hand_of(0, 0, 2, 0, 2, 3, -3, 1, 3, 1), "")


class Anew(Asked):
    def test_drawn_the_same_another_way(self):
        met = {}
        for chance, sketch in chance_sketches(3000, 3700):
            hand = any_hand(chance, numbers_for(sketch))
            told = self.drawn(sketch, hand)
            self.assertEqual(told, Drawer(sketch, hand).told(), (sketch, hand))
            for step, thing in zip(sketch, told):
                kind = "none" if thing is None else "roots" if any(number.sign for number in flat(thing)) else "plain"
                met[step[0], kind] = met.get((step[0], kind), 0) + 1
        for word in PATTERNS:
            self.assertGreater(met[word, "plain"], 20, word)
            if word != "free":
                self.assertGreater(met[word, "none"], 0, word)
        self.assertGreater(met["cross", "roots"], 100)
        self.assertGreater(sum(many for (word, kind), many in met.items() if kind == "roots" and word != "cross"), 60)

    def test_fourteen_steps(self):
        for seed in range(4000, 4030):
            chance = random.Random(seed)
            sketch = any_sketch(chance, 14)
            hand = tuple(Exact(chance.randint(-999999, 999999), chance.randint(1, 999999)) for _ in range(numbers_for(sketch)))
            self.assertEqual(len(self.drawn(sketch, hand)), 14)


class GoesAlong(Asked):
    """What sketches make goes along where all free ones are moved, turned, stretched, mirrored."""

    def check(self, sketch, hand, points, numbers=lambda word, number: number):
        """points and numbers tell where a place goes, and with what number behind it a step stands."""
        parts, rest = [], list(hand)
        for step in sketch:
            own = [rest.pop(0) for _ in range(OWN.get(step[0], 0))]
            parts += points(own) if step[0] == "free" else [numbers(step, number) for number in own]
        ahead, behind = self.drawn(sketch, hand), self.drawn(sketch, tuple(parts))
        for step, one, other in zip(sketch, ahead, behind):
            if one is None:
                self.assertIsNone(other, step)
            elif isinstance(one[0], tuple):
                self.assertEqual(other[0], tuple(points(one[0])))
            elif len(one) == 2:
                self.assertEqual(other, tuple(points(one)), step)
            else:
                self.assertEqual(len(other), 3)

    def sketches(self, crosses):
        for chance, sketch in chance_sketches(5000, 5200):
            if crosses or not any(step[0] == "cross" for step in sketch):
                yield sketch, any_hand(chance, numbers_for(sketch))

    def test_moved(self):
        for sketch, hand in self.sketches(True):
            self.check(sketch, hand, lambda p: [p[0].plus(Exact(5, 3)), p[1].minus(Exact(2))])

    def test_stretched(self):
        for sketch, hand in self.sketches(True):
            self.check(sketch, hand, lambda p: [number.times(Exact(7, 2)) for number in p])

    def test_turned(self):
        nought = Exact(0)
        for sketch, hand in self.sketches(False):
            self.check(sketch, hand, lambda p: [nought.minus(p[1]), p[0]])
            self.check(sketch, hand, lambda p: [nought.minus(p[0]), nought.minus(p[1])])
            self.check(sketch, hand, lambda p: [p[1], nought.minus(p[0])])

    def test_mirrored(self):
        nought = Exact(0)
        for sketch, hand in self.sketches(False):
            mirrored = tuple(step[:4] + (4 - step[4],) if step[0] == "turn" else step for step in sketch)
            ups = {}
            for step in sketch:
                if step[0] in ("line", "along", "upright"):
                    ups[step[1]] = 0 if step[0] == "line" else ups[step[3]] + (step[0] == "upright")
            self.check_mirrored(sketch, mirrored, hand, ups, nought)

    def check_mirrored(self, sketch, mirrored, hand, ups, nought):
        parts, rest = [], list(hand)
        for step in sketch:
            own = [rest.pop(0) for _ in range(OWN.get(step[0], 0))]
            if step[0] == "free":
                own = [nought.minus(own[0]), own[1]]
            elif step[0] == "round" or step[0] == "on" and ups[step[2]] % 2:
                own = [nought.minus(own[0])]
            parts += own
        for one, other in zip(self.drawn(sketch, hand), self.drawn(mirrored, tuple(parts))):
            if one is None:
                self.assertIsNone(other)
            elif len(one) == 2 and not isinstance(one[0], tuple):
                self.assertEqual(other, (nought.minus(one[0]), one[1]))

    def test_both_meets_go_along_where_they_change_places(self):
        rows = ("free a", "free b", "free o", "free p", "line l a b", "circle k o p", "cross x l k 0", "cross y l k 1")
        sketch, nought = lines_as_sketch(*rows), Exact(0)
        for numbers in ((-9, 3, 9, 3, 0, 0, 5, 0), (0, 0, 2, 1, 1, 1, 4, 0), (0, 0, 1, 1, 0, 0, 1, 0)):
            ahead = self.drawn(sketch, hand_of(*numbers))[-2:]
            pairs = [hand_of(*numbers)[at:at + 2] for at in range(0, 8, 2)]
            behind = self.drawn(sketch, tuple(one for x, y in pairs for one in (nought.minus(x), nought.minus(y))))[-2:]
            self.assertEqual(behind, tuple((nought.minus(x), nought.minus(y)) for x, y in reversed(ahead)))

    def test_two_orders_of_the_same_steps(self):
        one = lines_as_sketch("free a", "free b", "free c", "line l a b", "on p l", "circle k c a", "round r k", "foot f c l",
                              "middle m p r", "cross x l k 1")
        other = lines_as_sketch("free c", "free b", "free a", "circle k c a", "line l a b", "foot f c l", "cross x l k 1",
                                "round r k", "on p l", "middle m p r")
        for seed in range(50):
            hand = any_hand(random.Random(seed), 8)
            a, b, c, p, r = hand[:2], hand[2:4], hand[4:6], hand[6:7], hand[7:]
            ahead = dict(zip([step[1] for step in one], self.drawn(one, hand)))
            behind = dict(zip([step[1] for step in other], self.drawn(other, c + b + a + r + p)))
            self.assertEqual(ahead, behind)

    def test_what_does_not_hang_on_a_moved_one_stays(self):
        for chance, sketch in chance_sketches(5200, 5300):
            hand = any_hand(chance, numbers_for(sketch))
            ahead, at = self.drawn(sketch, hand), 0
            for number, step in enumerate(sketch):
                many = OWN.get(step[0], 0)
                if many:
                    moved = hand[:at] + any_hand(chance, many) + hand[at + many:]
                    behind = self.drawn(sketch, moved)
                    for k in set(range(len(sketch))) - {number, *hanging(sketch, step[1])}:
                        self.assertEqual(behind[k], ahead[k])
                at += many
