import unittest

from pointhouse.exacts import Exact
from tests.helper import parts_of, samples, scaled


class Signs(unittest.TestCase):
    def told(self, number, sign):
        with self.subTest(number=str(number)):
            self.assertEqual(number.sign_of(), sign)
            self.assertIs(type(number.sign_of()), int)

    def test_quotients(self):
        for number, sign in ((Exact(0), 0), (Exact(0, 7), 0), (Exact(1, 10 ** 119), 1), (Exact(-1, 10 ** 119), -1),
                             (Exact(10 ** 119), 1), (Exact(-3), -1), (Exact(2, sign=-1, over=4), 0)):
            self.told(number, sign)

    def test_roots(self):
        cases = {
            (0, 1, 1, 2, 1): 1, (0, 1, -1, 2, 1): -1, (1, 1, 1, 2, 1): 1, (-1, 1, -1, 2, 1): -1,
            (1, 1, -1, 2, 1): -1, (2, 1, -1, 2, 1): 1, (-1, 1, 1, 2, 1): 1, (-2, 1, 1, 2, 1): -1,
            (3, 2, -1, 9, 5): 1, (3, 2, -1, 12, 5): -1, (-3, 2, 1, 9, 5): -1, (-3, 2, 1, 12, 5): 1,
            (1, 3, -1, 1, 8): -1, (1, 2, -1, 1, 5): 1, (-1, 3, 1, 1, 8): 1, (-1, 2, 1, 1, 5): -1,
        }
        for (top, bottom, sign, over, under), wanted in cases.items():
            self.told(Exact(top, bottom, sign=sign, over=over, under=under), wanted)

    def test_very_near_to_nought(self):
        for figures in (1, 3, 6, 12, 30, 59):
            great = 10 ** figures
            for more in (-1, 1):
                self.told(Exact(great, sign=-1, over=great ** 2 + more), -more)
                self.told(Exact(-great, sign=1, over=great ** 2 + more), more)
                self.told(Exact(1, great, sign=-1, over=1, under=great ** 2 + more), more)
                self.told(Exact(-1, great, sign=1, over=1, under=great ** 2 + more), -more)

    def test_nearest_quotients(self):
        # tops / bottoms go to the root of 2 from both sides, by turns.
        top, bottom, sign = 1, 1, -1
        for _ in range(150):
            self.assertEqual(Exact(top, bottom, sign=-1, over=2).sign_of(), sign)
            self.assertEqual(Exact(-top, bottom, sign=1, over=2).sign_of(), -sign)
            self.assertEqual(Exact(top, bottom).is_less(Exact(0, sign=1, over=2)), sign < 0)
            self.assertEqual(Exact(0, sign=1, over=2).is_less(Exact(top, bottom)), sign > 0)
            top, bottom, sign = top + 2 * bottom, top + bottom, -sign

    def test_samples(self):
        for number in samples():
            worth = scaled(number, 30)
            self.told(number, (worth > 2) - (worth < -2))


class Less(unittest.TestCase):
    def test_each_with_each(self):
        for one in samples():
            for other in samples():
                rests = {parts_of(number)[2] for number in (one, other)}
                if len(rests - {1}) < 2:
                    wanted = scaled(one, 30) + 4 < scaled(other, 30)
                    self.assertIs(one.is_less(other), wanted, (one, other))

    def test_not_less_than_itself(self):
        for number in samples():
            self.assertIs(number.is_less(number), False)

    def test_very_near_to_one_another(self):
        for figures in (0, 3, 6, 20, 59):
            step = 10 ** figures
            for number in (Exact(1, 3), Exact(-2, 7, sign=1, over=5, under=3), Exact(0, sign=-1, over=2)):
                near = number.plus(Exact(1, step))
                with self.subTest(figures=figures, number=str(number)):
                    self.assertIs(number.is_less(near), True)
                    self.assertIs(near.is_less(number), False)
                    self.assertIs(number.plus(Exact(0)).is_less(number), False)

    def test_both_with_roots(self):
        great = 10 ** 40
        one = Exact(great, sign=1, over=2)
        other = Exact(1, sign=1, over=2 * (great + 1) ** 2)
        # one less other is great - 1, less great times the root of 2.
        self.assertIs(one.is_less(other), True)
        self.assertIs(other.is_less(one), False)

    def test_below_nought(self):
        self.assertIs(Exact(-3).is_less(Exact(-2)), True)
        self.assertIs(Exact(-2).is_less(Exact(-3)), False)
        self.assertIs(Exact(0, sign=-1, over=3).is_less(Exact(0)), True)
        self.assertIs(Exact(0).is_less(Exact(0, sign=-1, over=3)), False)
