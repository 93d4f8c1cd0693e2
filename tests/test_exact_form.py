import inspect
import unittest
from fractions import Fraction
from math import isqrt

from pointhouse.errors import NoBottom, NoExact, NoText, NoWay, PointError, TwoRoots
from pointhouse.exacts import Exact
from tests.helper import NO_WHOLES, fields, samples


class Quotients(unittest.TestCase):
    def test_lowest_terms(self):
        cases = {
            (1, 1): (1, 1), (6, 4): (3, 2), (-6, 4): (-3, 2), (0, 7): (0, 1), (0, 1): (0, 1), (-8, 2): (-4, 1),
            (10, 10): (1, 1), (7, 3): (7, 3), (-1, 9): (-1, 9), (3 * 10 ** 119, 10 ** 119): (3, 1),
            (10 ** 119 + 1, 10 ** 119): (10 ** 119 + 1, 10 ** 119),
        }
        for (top, bottom), kept in cases.items():
            with self.subTest(top=top, bottom=bottom):
                self.assertEqual(fields(Exact(top, bottom)), (*kept, 0, 0, 1))

    def test_each_small_one(self):
        for top in range(-30, 31):
            for bottom in range(1, 31):
                value = Fraction(top, bottom)
                self.assertEqual(fields(Exact(top, bottom)), (value.numerator, value.denominator, 0, 0, 1))

    def test_fields_are_whole_numbers(self):
        for number in samples() + [Exact(4, 2, sign=1, over=9, under=4), Exact(1, sign=0, over=9)]:
            for field in fields(number):
                self.assertIs(type(field), int)


class Roots(unittest.TestCase):
    def test_root_of_a_whole_number(self):
        self.assertEqual(fields(Exact(1, 2, sign=1, over=2)), (1, 2, 1, 2, 1))
        self.assertEqual(fields(Exact(1, 2, sign=-1, over=2)), (1, 2, -1, 2, 1))
        self.assertEqual(fields(Exact(0, 5, sign=-1, over=7)), (0, 1, -1, 7, 1))

    def test_root_is_kept_in_lowest_terms(self):
        self.assertEqual(fields(Exact(3, 6, sign=-1, over=10, under=8)), (1, 2, -1, 5, 4))
        self.assertEqual(fields(Exact(0, sign=1, over=6, under=4)), (0, 1, 1, 3, 2))
        self.assertEqual(fields(Exact(0, sign=1, over=6, under=3)), (0, 1, 1, 2, 1))

    def test_root_of_squares_times_another_number_stays_whole(self):
        self.assertEqual(fields(Exact(0, sign=1, over=8)), (0, 1, 1, 8, 1))
        self.assertEqual(fields(Exact(0, sign=1, over=50, under=49)), (0, 1, 1, 50, 49))
        self.assertEqual(fields(Exact(0, sign=-1, over=1, under=8)), (0, 1, -1, 1, 8))
        self.assertEqual(fields(Exact(0, sign=-1, over=4, under=3)), (0, 1, -1, 4, 3))

    def test_root_of_a_square_goes(self):
        self.assertEqual(fields(Exact(1, sign=1, over=9)), (4, 1, 0, 0, 1))
        self.assertEqual(fields(Exact(1, sign=-1, over=9)), (-2, 1, 0, 0, 1))
        self.assertEqual(fields(Exact(3, sign=-1, over=9)), (0, 1, 0, 0, 1))
        self.assertEqual(fields(Exact(0, sign=1, over=1)), (1, 1, 0, 0, 1))

    def test_root_of_a_quotient_of_squares_goes(self):
        self.assertEqual(fields(Exact(1, 3, sign=1, over=25, under=4)), (17, 6, 0, 0, 1))
        self.assertEqual(fields(Exact(1, 3, sign=-1, over=25, under=4)), (-13, 6, 0, 0, 1))
        self.assertEqual(fields(Exact(1, 2, sign=1, over=1, under=4)), (1, 1, 0, 0, 1))

    def test_root_that_is_a_quotient_in_lowest_terms_alone(self):
        self.assertEqual(fields(Exact(0, sign=1, over=8, under=2)), (2, 1, 0, 0, 1))
        self.assertEqual(fields(Exact(0, sign=-1, over=18, under=50)), (-3, 5, 0, 0, 1))
        self.assertEqual(fields(Exact(1, sign=1, over=7, under=7)), (2, 1, 0, 0, 1))

    def test_root_of_nought_goes(self):
        for sign in (-1, 0, 1):
            for under in (1, 2, 9):
                self.assertEqual(fields(Exact(2, 4, sign=sign, over=0, under=under)), (1, 2, 0, 0, 1))

    def test_root_with_sign_nought_goes(self):
        for over, under in ((2, 1), (9, 4), (3, 7), (1, 1), (10 ** 119 + 3, 6)):
            self.assertEqual(fields(Exact(3, 6, sign=0, over=over, under=under)), (1, 2, 0, 0, 1))

    def test_each_small_one(self):
        for over in range(0, 40):
            for under in range(1, 14):
                for sign in (-1, 1):
                    root = Fraction(over, under)
                    side = Fraction(isqrt(root.numerator), isqrt(root.denominator))
                    value = Fraction(3, 5)
                    wanted = (3, 5, sign, root.numerator, root.denominator)
                    if side * side == root:
                        value = value + sign * side
                        wanted = (value.numerator, value.denominator, 0, 0, 1)
                    self.assertEqual(fields(Exact(3, 5, sign=sign, over=over, under=under)), wanted)

    def test_great_ones(self):
        great = 10 ** 59 + 7
        self.assertEqual(fields(Exact(1, sign=1, over=great * great, under=4)), (great + 2, 2, 0, 0, 1))
        self.assertEqual(fields(Exact(0, sign=-1, over=great * great)), (-great, 1, 0, 0, 1))
        self.assertEqual(fields(Exact(0, sign=1, over=great ** 2 - 1)), (0, 1, 1, great ** 2 - 1, 1))
        self.assertEqual(fields(Exact(0, sign=1, over=great ** 2 + 1)), (0, 1, 1, great ** 2 + 1, 1))
        self.assertEqual(fields(Exact(0, sign=1, over=1, under=great ** 2 + 1)), (0, 1, 1, 1, great ** 2 + 1))
        self.assertEqual(fields(Exact(0, sign=1, over=great ** 2, under=great ** 2 - 1)),
                         (0, 1, 1, great ** 2, great ** 2 - 1))


class HandedIn(unittest.TestCase):
    def test_left_out(self):
        self.assertEqual(fields(Exact(5)), (5, 1, 0, 0, 1))
        self.assertEqual(fields(Exact(5, sign=1)), (5, 1, 0, 0, 1))
        self.assertEqual(fields(Exact(5, over=3)), (5, 1, 0, 0, 1))
        self.assertEqual(fields(Exact(5, under=3)), (5, 1, 0, 0, 1))
        self.assertEqual(fields(Exact(5, 10, over=3, under=2)), (1, 2, 0, 0, 1))
        self.assertEqual(fields(Exact(5, sign=-1, over=3)), (5, 1, -1, 3, 1))
        self.assertEqual(fields(Exact(5, sign=-1, under=3)), (5, 1, 0, 0, 1))

    def test_by_names_in_any_order(self):
        wanted = (1, 2, -1, 5, 4)
        self.assertEqual(fields(Exact(under=4, over=5, sign=-1, bottom=2, top=1)), wanted)
        self.assertEqual(fields(Exact(1, over=5, under=4, bottom=2, sign=-1)), wanted)
        self.assertEqual(fields(Exact(1, 2, under=4, sign=-1, over=5)), wanted)

    def test_what_stands_behind_the_star_goes_by_its_name(self):
        for places in ((1, 1, 1), (1, 1, 0, 0), (1, 1, 0, 0, 1)):
            with self.assertRaises(TypeError):
                Exact(*places)

    def test_signature(self):
        self.assertEqual(str(inspect.signature(Exact)), "(top, bottom=1, *, sign=0, over=0, under=1)")

    def test_its_methods_are_its_own(self):
        for name in ("plus", "minus", "times", "by", "sign_of", "is_less", "decimals", "__eq__", "__str__", "__repr__"):
            self.assertIn(name, vars(Exact))


class NoNumbers(unittest.TestCase):
    RIGHT = {"top": 1, "bottom": 2, "sign": 1, "over": 3, "under": 4}

    def refused(self, **changed):
        with self.subTest(changed=changed):
            with self.assertRaises(NoExact) as caught:
                Exact(**{**self.RIGHT, **changed})
            self.assertIs(type(caught.exception), NoExact)

    def test_no_whole_numbers(self):
        for name in self.RIGHT:
            for thing in NO_WHOLES:
                self.refused(**{name: thing})

    def test_bottom_and_under_above_nought(self):
        for name in ("bottom", "under"):
            for number in (0, -1, -2, -10 ** 59):
                self.refused(**{name: number})

    def test_over_from_nought_on(self):
        for number in (-1, -4, -10 ** 59):
            self.refused(over=number)

    def test_sign(self):
        for number in (-3, -2, 2, 3, 10 ** 59):
            self.refused(sign=number)

    def test_root_that_goes_must_be_right_too(self):
        for changed in ({"over": -1}, {"under": 0}, {"under": -2}, {"over": "3"}, {"under": None}):
            self.refused(sign=0, **changed)
        self.refused(over=0, under=0)
        self.refused(over=-4, under=-1)

    def test_truths_of_the_right_worth(self):
        for changed in ({"top": True}, {"bottom": True}, {"sign": True}, {"sign": False}, {"over": False},
                        {"over": True}, {"under": True}):
            self.refused(**changed)

    def test_by_places(self):
        for places in ((True,), (None,), ("1",), ((1, 2),), (1, 0), (1, True), (1, None), (1, -1)):
            with self.subTest(places=places), self.assertRaises(NoExact):
                Exact(*places)

    def test_class_of_the_refusal(self):
        for above in (NoExact, PointError, ValueError):
            with self.assertRaises(above):
                Exact(1, 0)
        for other in (NoText, TwoRoots, NoBottom, NoWay, KeyError, ZeroDivisionError, TypeError):
            self.assertFalse(issubclass(NoExact, other))

    def test_what_is_handed_in_is_not_changed(self):
        thing = [1, {"a": (2,)}, [3]]
        with self.assertRaises(NoExact):
            Exact(thing, thing, sign=thing, over=thing, under=thing)
        self.assertEqual(thing, [1, {"a": (2,)}, [3]])


class Alike(unittest.TestCase):
    def test_made_two_ways(self):
        pairs = [
            (Exact(1, 2), Exact(3, 6)), (Exact(0), Exact(0, 9)), (Exact(3), Exact(1, sign=1, over=4)),
            (Exact(0, sign=1, over=2), Exact(0, sign=1, over=4, under=2)),
            (Exact(5), Exact(5, sign=0, over=7, under=3)), (Exact(2), Exact(5, sign=-1, over=9)),
        ]
        for one, other in pairs:
            with self.subTest(one=str(one)):
                self.assertIs(one == other, True)
                self.assertIs(one != other, False)
                self.assertEqual((one, [other]), (other, [one]))

    def test_differing_in_one_field(self):
        one = Exact(1, 2, sign=1, over=5, under=3)
        others = [
            Exact(3, 2, sign=1, over=5, under=3), Exact(1, 4, sign=1, over=5, under=3),
            Exact(1, 2, sign=-1, over=5, under=3), Exact(1, 2, sign=1, over=7, under=3),
            Exact(1, 2, sign=1, over=5, under=4),
        ]
        for at, other in enumerate(others):
            with self.subTest(at=at):
                self.assertEqual([x != y for x, y in zip(fields(one), fields(other))], [k == at for k in range(5)])
                for left, right in ((one, other), (other, one)):
                    self.assertIs(left == right, False)
                    self.assertIs(left != right, True)
                    self.assertFalse((left,) == (right,))
                    self.assertTrue([1, [left]] != [1, [right]])

    def test_just_the_same_numbers_among_all(self):
        numbers = samples()
        for at, one in enumerate(numbers):
            for where, other in enumerate(numbers):
                self.assertIs(one == other, at == where)
                self.assertIs(one != other, at != where)

    def test_things_of_other_kinds(self):
        for number in (Exact(0), Exact(1), Exact(0, sign=1, over=2)):
            for thing in (0, 1, True, False, None, str(number), "", (1, 1, 0, 0, 1), [1], {}, {1: 1}, fields(number)):
                with self.subTest(number=str(number), thing=thing):
                    self.assertIs(number == thing, False)
                    self.assertIs(thing == number, False)
                    self.assertIs(number != thing, True)
                    self.assertIs(thing != number, True)
                    self.assertFalse((number, 1) == (thing, 1))
                    self.assertFalse([number] == [thing])

    def test_within_tuples_and_lists(self):
        self.assertIn(Exact(2, 4), (3, Exact(1, 2)))
        self.assertNotIn(Exact(1), [1, True, "1"])
        self.assertEqual([(Exact(1), "a")], [(Exact(2, 2), "a")])
        self.assertEqual((1, Exact(4, 6), 2).index(Exact(2, 3)), 1)


class Texts(unittest.TestCase):
    FORMS = {
        "0": Exact(0), "1": Exact(1), "-1": Exact(-1), "12": Exact(12), "-7/3": Exact(-7, 3), "7/3": Exact(7, 3),
        "1/2-r5/4": Exact(1, 2, sign=-1, over=5, under=4), "0+r2": Exact(0, sign=1, over=2),
        "0-r2": Exact(0, sign=-1, over=2), "3+r8": Exact(3, sign=1, over=8), "-3-r1/8": Exact(-3, sign=-1, over=1, under=8),
        "-3/4+r10/7": Exact(-3, 4, sign=1, over=10, under=7), "0+r1/2": Exact(0, sign=1, over=1, under=2),
        "-1/2+r3": Exact(-1, 2, sign=1, over=3), "5-r6": Exact(5, sign=-1, over=6),
        "4": Exact(1, sign=1, over=9), "-1/2": Exact(-2, 4, sign=1, over=0),
        "1" + "0" * 119: Exact(10 ** 119), "0+r1" + "0" * 119: Exact(0, sign=1, over=10 ** 119),
    }

    def test_str(self):
        for text, number in self.FORMS.items():
            with self.subTest(text):
                self.assertEqual(str(number), text)
                self.assertEqual(f"{number}", text)

    def test_repr(self):
        for text, number in self.FORMS.items():
            with self.subTest(text):
                self.assertEqual(repr(number), f"Exact({text})")
        self.assertEqual(repr((Exact(1, 2), [Exact(0, sign=1, over=2)])), "(Exact(1/2), [Exact(0+r2)])")

    def test_each_number_has_its_own(self):
        texts = [str(number) for number in samples()]
        self.assertEqual(len(set(texts)), len(texts))
