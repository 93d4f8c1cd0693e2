import copy
import itertools
import random
import unittest

from pointhouse.conditions import conditions
from pointhouse.drawing import drawn, is_hand, numbers_for
from tests.anew import Drawer
from tests.general_anew import needed_anew, own_places
from tests.helper import any_sketch, hand_of, lines_as_sketch


def conditions_anew(sketch):
    """The same by all hands of noughts and ones."""
    places = own_places(sketch)
    many = sum(len(each) for each in places)
    drawings = [(hand, Drawer(sketch, hand_of(*hand)).made) for hand in itertools.product((0, 1), repeat=many)]
    found = []
    for number, step in enumerate(sketch):
        if step[0] in ("line", "circle", "meet"):
            steps = needed_anew(sketch, (step[1],))
            idle = [at for other, each in enumerate(places) if other not in steps for at in each]
            for hand, made in drawings:
                undone = [other for other in steps if made[sketch[other][1]] is None]
                if undone == [number] and not any(hand[at] for at in idle):
                    found.append((number, hand_of(*hand)))
                    break
    return tuple(found)


class Conditions(unittest.TestCase):
    def told(self, *rows, sketch=None):
        sketch = lines_as_sketch(*rows) if sketch is None else sketch
        ahead = copy.deepcopy(sketch)
        told = conditions(sketch)
        self.assertIs(type(told), tuple)
        self.assertEqual(conditions(sketch=sketch), told)
        self.assertEqual(sketch, ahead)
        for pair in told:
            self.assertEqual([type(pair), len(pair), type(pair[0])], [tuple, 2, int])
            self.assertTrue(is_hand(sketch, pair[1]))
            self.assertIsNone(drawn(sketch, pair[1])[pair[0]])
        return told

    def check(self, rows, *wanted):
        self.assertEqual(self.told(*rows), tuple((number, hand_of(*hand)) for number, hand in wanted))
        self.assertEqual(self.told(*rows), conditions_anew(lines_as_sketch(*rows)))

    def test_none(self):
        self.check(())
        self.check(("free a",))
        self.check(("free a", "free b", "middle m a b", "turn t a b 1"))
        # A step by which no such hand is, and one by which only what is ahead can't be done.
        self.check(("free a", "free b", "line l a b", "along m a l", "upright n b m", "on p l", "foot f p n"),
                   (2, (0, 0, 0, 0, 0)))
        self.check(("free a", "free b", "line l a b", "upright m a l", "meet x l m"), (2, (0, 0, 0, 0)))
        self.check(("free a", "free b", "circle k a b", "round p k", "circle j a p"), (2, (0, 0, 0, 0, 0)))
        self.check(("free a", "free b", "line l a b", "turn c b a 1", "upright m c l", "meet x l m"), (2, (0, 0, 0, 0)))

    def test_lines_and_circles(self):
        self.check(("free a", "free b", "line l a b"), (2, (0, 0, 0, 0)))
        self.check(("free a", "free b", "circle k b a"), (2, (0, 0, 0, 0)))
        self.check(("free a", "free b", "line l a b", "on p l", "line m a p", "line n b p", "circle k p a"),
                   (2, (0, 0, 0, 0, 0)), (4, (0, 0, 0, 1, 0)), (5, (0, 0, 0, 1, 1)), (6, (0, 0, 0, 1, 0)))
        self.check(("free a", "free b", "middle m a b", "free c", "line l m c", "line o a c"),
                   (4, (0, 0, 0, 0, 0, 0)), (5, (0, 0, 0, 0, 0, 0)))

    def test_meets(self):
        self.check(("free a", "free b", "free c", "line l a b", "line m a c", "meet x l m"),
                   (3, (0, 0, 0, 0, 0, 0)), (4, (0, 0, 0, 0, 0, 0)), (5, (0, 0, 0, 1, 0, 1)))
        self.check(("free a", "free b", "free c", "free d", "line l a b", "line m c d", "meet x l m"),
                   (4, (0,) * 8), (5, (0,) * 8), (6, (0, 0, 0, 1, 0, 0, 0, 1)))

    def test_always(self):
        # By no hand can these be done: the first at which all ahead can is the first such at all.
        self.check(("free a", "free b", "line l a b", "along m b l", "meet x l m"), (2, (0, 0, 0, 0)), (4, (0, 0, 0, 1)))
        self.check(("free a", "free b", "middle m a b", "middle n b a", "line l m n", "circle k n m"),
                   (4, (0, 0, 0, 0)), (5, (0, 0, 0, 0)))

    def test_numbers_of_steps_on_which_it_does_not_hang(self):
        self.check(("free x", "free a", "free b", "line l a b", "free c", "line m b c"),
                   (3, (0,) * 8), (5, (0,) * 8))
        self.check(("free a", "free b", "free x", "line l a b", "on p l", "line m b p"),
                   (3, (0,) * 7), (5, (0, 0, 0, 1, 0, 0, 1)))

    def test_just_what_is_ahead_can_not_be_done(self):
        # The line m can't be done just where l can't.
        self.check(("free a", "free b", "line l a b", "turn c a b 1", "on p l", "line m p c"), (2, (0, 0, 0, 0, 0)))
        self.check(("free a", "free b", "circle k a b", "turn c b a 1", "line m b c"), (2, (0, 0, 0, 0)), (4, (0, 0, 0, 0)))

    def test_eight_numbers(self):
        rows = ("free a", "free b", "free c", "line l a b", "on p l", "circle k c p", "round r k", "line m r a", "meet x l m",
                "line n x c", "line o p r", "meet y n o", "circle j y x", "line h y b")
        self.assertEqual(numbers_for(lines_as_sketch(*rows)), 8)
        self.assertEqual(self.told(*rows), conditions_anew(lines_as_sketch(*rows)))
        rows = ("free a", "free b", "free c", "free d", "line l a b", "line m c d", "meet x l m", "mirror e x l", "mirror f a m",
                "line n e f", "meet y n l", "circle k y x", "mirror g y n", "line o g d")
        self.assertEqual(self.told(*rows), conditions_anew(lines_as_sketch(*rows)))

    def test_anew(self):
        met = {}
        for seed in range(9000, 9250):
            chance = random.Random(seed)
            ahead = lines_as_sketch("free a", "free b", "free c", "line l a b", "line m b c")
            sketch = any_sketch(chance, chance.randint(0, 11), ahead if seed % 2 else ())
            if numbers_for(sketch) <= 7 and not any(step[0] == "cross" for step in sketch):
                told = self.told(sketch=sketch)
                self.assertEqual(told, conditions_anew(sketch), sketch)
                met[min(len(told), 3)] = met.get(min(len(told), 3), 0) + 1
                for number, hand in told:
                    met[sketch[number][0]] = met.get(sketch[number][0], 0) + 1
        self.assertGreater(min(met[kind] for kind in (0, 1, 2, 3, "line", "circle", "meet")), 5, met)
