import inspect
import unittest

from pointhouse.errors import NoText, PointError
from pointhouse.exacts import Exact, read_exact
from tests.helper import fields, samples, scaled

WHOLES = (0, 1, -1, 7, -7, 10, -10, 10 ** 59, 10 ** 60 - 1, 1 - 10 ** 60)
GREAT = 10 ** 60 - 1


class Reading(unittest.TestCase):
    def test_each_text_that_str_writes(self):
        for number in samples() + [Exact(top, bottom) for top in WHOLES for bottom in (1, 3, 10, GREAT)]:
            with self.subTest(text=str(number)):
                told = read_exact(str(number))
                self.assertIs(type(told), Exact)
                self.assertEqual(fields(told), fields(number))

    def test_told_ones(self):
        self.assertEqual(fields(read_exact("1/2-r5/4")), (1, 2, -1, 5, 4))
        self.assertEqual(fields(read_exact("0+r2")), (0, 1, 1, 2, 1))
        self.assertEqual(fields(read_exact("-3/4-r1/8")), (-3, 4, -1, 1, 8))
        self.assertEqual(fields(read_exact("-12")), (-12, 1, 0, 0, 1))
        self.assertEqual(fields(read_exact("0")), (0, 1, 0, 0, 1))

    def test_sixty_figures_in_each_place(self):
        over = GREAT - 1
        for number in (Exact(-GREAT, GREAT - 1, sign=-1, over=over, under=GREAT), Exact(GREAT), Exact(1, GREAT),
                       Exact(0, sign=1, over=over), Exact(0, sign=1, over=1, under=over)):
            self.assertEqual(read_exact(str(number)), number)

    def test_by_name(self):
        self.assertEqual(read_exact(text="1/2"), Exact(1, 2))
        self.assertEqual(str(inspect.signature(read_exact)), "(text)")


class NoTexts(unittest.TestCase):
    def refused(self, thing):
        with self.subTest(thing=thing):
            with self.assertRaises(NoText) as caught:
                read_exact(thing)
            self.assertIs(type(caught.exception), NoText)
            self.assertEqual(caught.exception.row, 0)
            self.assertIs(type(caught.exception.row), int)
            self.assertIsInstance(caught.exception, PointError)

    def test_texts_of_other_forms(self):
        for text in ("", " ", "-", "+", "r", "/", "a", "+1", "--1", "1 ", " 1", "1\n", "\n1", "1.0", "1e3", "1_000", "0x1",
                     "-0", "-0/1", "00", "01", "-01", "1//2", "1/", "/2", "1/-2", "1/+2", "1/2/3", "1,2", "1/ 2", "(1)",
                     "0r2", "r2", "+r2", "-r2", "0+r", "0-r", "0+2", "0+r-2", "0++r2", "0+-r2", "0 +r2", "0+ r2", "0+R2",
                     "0+r2r3", "0+r2+r3", "0+r/2", "0+r2/", "0+r+2", "0*r2", "1/2r5", "Exact(1)", "1-", "1+", "r2+0",
                     "None", "True", "0+r1/-2", "~", "1~", "\u00b2", "\u0661", "0+r\u00b2"):
            self.refused(text)

    def test_noughts_ahead(self):
        for text in ("01", "-01", "1/02", "00", "0+r02", "0+r3/02", "0+r00", "00+r2", "-00", "0" * 60 + "1", "-0+r2"):
            self.refused(text)

    def test_not_in_lowest_terms(self):
        for text in ("1/1", "2/1", "0/1", "0/2", "2/4", "-6/4", "0+r2/1", "0+r4/6", "2/2+r3", "0+r10/8", "1/2-r10/8"):
            self.refused(text)

    def test_roots_that_are_quotients(self):
        for text in ("0+r0", "0-r0", "0+r1", "0-r1", "1+r4", "1/2-r9/4", "0+r1/4", "0+r0/1", "3+r8/2", "0+r25/1"):
            self.refused(text)

    def test_noughts_below(self):
        for text in ("1/0", "0/0", "0+r2/0", "1/0+r2", "-1/0", "0+r0/0"):
            self.refused(text)

    def test_sixty_one_figures(self):
        great = str(10 ** 60)
        for text in (great, "-" + great, f"1/{great}", f"0+r{great}", f"0+r1/{great}1", f"{great}/3+r2", "1" * 4000,
                     f"0-r{10 ** 60 + 1}/3", f"1/2+r2/{10 ** 60 + 1}", "1/" + "3" * 3998, "0" * 4000):
            self.refused(text)

    def test_one_sign_more_fewer_exchanged(self):
        # Whatever comes of it is read just where it is itself a text that str writes.
        signs = "0129-+/r .R\n~"
        for text in ("1/2-r5/4", "0+r2", "-17/3", "-2/3+r12/7", "0", "10"):
            changed = set()
            for at in range(len(text) + 1):
                changed.add(text[:at] + text[at + 1:])
                for sign in signs:
                    changed.add(text[:at] + sign + text[at:])
                    changed.add(text[:at] + sign + text[at + 1:])
            for other in sorted(changed):
                if self.is_written(other):
                    self.assertEqual(str(read_exact(other)), other)
                else:
                    self.refused(other)

    def is_written(self, text):
        ahead, mark, behind = text.partition("r")
        if mark and ahead[-1:] not in ("+", "-"):
            return False
        top = self.quotient(ahead[:-1] if mark else ahead, True)
        root = self.quotient(behind, False) if mark else (0, 1)
        if top is None or root is None:
            return False
        sign = {"+": 1, "-": -1}[ahead[-1]] if mark else 0
        made = Exact(*top, sign=sign, over=root[0], under=root[1])
        return fields(made) == (*top, sign, *root)

    def quotient(self, text, may_be_below):
        top, mark, bottom = text.partition("/")
        below = may_be_below and top.startswith("-")
        parts = [top[1:] if below else top] + ([bottom] if mark else [])
        if not all(part.isascii() and part.isdigit() and str(int(part)) == part for part in parts):
            return None
        numbers = [int(part) for part in parts]
        if (mark and numbers[1] < 2) or (below and numbers[0] == 0):
            return None
        return (-numbers[0] if below else numbers[0], numbers[1] if mark else 1)

    def test_things_of_other_kinds(self):
        deep = ()
        for _ in range(30):
            deep = (deep,)
        for thing in (None, True, False, 0, 1, 10 ** 59, (), ("1",), ["1"], [], {}, {"1": "1"}, Exact(1), deep,
                      (1, 2, 1, 5, 4), ["1"] * 60000, "1" * 4000, "r" * 4000, "/" * 4000):
            self.refused(thing)

    def test_what_is_handed_in_is_not_changed(self):
        thing = ["1", {"a": ["2"]}]
        self.refused(thing)
        self.assertEqual(thing, ["1", {"a": ["2"]}])


class Decimals(unittest.TestCase):
    def test_told_ones(self):
        cases = [
            (Exact(-1, 3), 3, "-0.333"), (Exact(2), 3, "2.000"), (Exact(2), 0, "2"), (Exact(0), 0, "0"),
            (Exact(0), 2, "0.00"), (Exact(-2), 0, "-2"), (Exact(-2), 1, "-2.0"), (Exact(7, 4), 0, "1"),
            (Exact(-7, 4), 0, "-1"), (Exact(7, 4), 1, "1.7"), (Exact(-7, 4), 1, "-1.7"), (Exact(7, 4), 2, "1.75"),
            (Exact(999, 1000), 2, "0.99"), (Exact(-999, 1000), 2, "-0.99"), (Exact(1, 20), 2, "0.05"),
            (Exact(-1, 20), 1, "0.0"), (Exact(-1, 20), 2, "-0.05"), (Exact(-1, 20), 0, "0"), (Exact(-9, 10), 0, "0"),
            (Exact(1234567, 100), 1, "12345.6"), (Exact(-1, 10 ** 30), 29, "0." + "0" * 29),
            (Exact(-1, 10 ** 30), 30, "-0." + "0" * 29 + "1"), (Exact(1, 10 ** 30), 30, "0." + "0" * 29 + "1"),
        ]
        for number, places, text in cases:
            with self.subTest(number=str(number), places=places):
                self.assertEqual(number.decimals(places), text)

    def test_roots(self):
        two = Exact(0, sign=1, over=2)
        self.assertEqual(two.decimals(30), "1.414213562373095048801688724209")
        self.assertEqual(two.decimals(0), "1")
        self.assertEqual(Exact(0, sign=-1, over=2).decimals(30), "-1.414213562373095048801688724209")
        self.assertEqual(Exact(2, sign=-1, over=2).decimals(10), "0.5857864376")
        self.assertEqual(Exact(-2, sign=1, over=2).decimals(10), "-0.5857864376")
        self.assertEqual(Exact(1, 2, sign=1, over=5, under=4).decimals(12), "1.618033988749")
        self.assertEqual(Exact(1, 2, sign=-1, over=5, under=4).decimals(12), "-0.618033988749")
        self.assertEqual(Exact(1, sign=-1, over=2).decimals(0), "0")
        self.assertEqual(Exact(1, sign=-1, over=2).decimals(1), "-0.4")
        self.assertEqual(Exact(-1, sign=-1, over=2).decimals(2), "-2.41")

    def test_roots_near_whole_numbers(self):
        great = 10 ** 20
        above, below = great ** 2 + 1, great ** 2 - 1
        self.assertEqual(Exact(0, sign=1, over=above).decimals(0), str(great))
        self.assertEqual(Exact(0, sign=1, over=below).decimals(0), str(great - 1))
        self.assertEqual(Exact(0, sign=-1, over=below).decimals(3), f"-{great - 1}.999")
        self.assertEqual(Exact(great, sign=-1, over=above).decimals(5), "0.00000")
        self.assertEqual(Exact(great, sign=-1, over=above).decimals(21), "-0.000000000000000000004")
        self.assertEqual(Exact(great, sign=-1, over=below).decimals(21), "0.000000000000000000005")
        self.assertEqual(Exact(2 * great, sign=-1, over=above).decimals(0), str(great - 1))
        self.assertEqual(Exact(-2 * great, sign=1, over=above).decimals(2), f"-{great - 1}.99")

    def test_samples_at_each_number_of_places(self):
        for number in samples():
            for places in range(31):
                with self.subTest(number=str(number), places=places):
                    self.check(number, places)

    def check(self, number, places):
        text = number.decimals(places)
        self.assertIs(type(text), str)
        worth = scaled(number, 60)
        cut = abs(worth) // 10 ** (60 - places)
        if number.sign == 0:
            cut = abs(number.top) * 10 ** places // number.bottom
        figures = str(cut).rjust(places + 1, "0")
        wanted = figures if places == 0 else figures[:-places] + "." + figures[-places:]
        self.assertEqual(text, ("-" if worth < -2 and cut > 0 else "") + wanted)

    def test_great_ones(self):
        number = Exact(10 ** 119 + 1, 10 ** 30)
        self.assertEqual(number.decimals(30), "1" + "0" * 89 + "." + "0" * 29 + "1")
        self.assertEqual(number.decimals(29), "1" + "0" * 89 + "." + "0" * 29)

    def test_by_name(self):
        self.assertEqual(Exact(1, 3).decimals(places=2), "0.33")

    def test_number_stays(self):
        for number in samples():
            ahead = fields(number)
            number.decimals(7)
            number.sign_of()
            str(number)
            repr(number)
            self.assertEqual(fields(number), ahead)
