import copy
import random
import time
import unittest
from fractions import Fraction
from math import gcd

from pointhouse import errors
from pointhouse.drawing import drawn, numbers_for
from pointhouse.exacts import Exact
from pointhouse.steps import hanging
from pointhouse.ways import going_at, way_of
from pointhouse.weights import weight_of
from tests.anew import from_exact
from tests.general_anew import own_places
from tests.helper import PATTERNS, any_hand, any_sketch, exact, hand_of, lines_as_sketch, place, sort_made
from tests.ways_anew import exacts, is_nought_along, never_anew, place_at, primitive, run_of, way_anew

LINE = ("free a", "free b", "free c", "line l a b", "on p l")
CIRCLE = ("free a", "free b", "free c", "circle k a b", "round p k")
# Of a focus c and a line l, and of two circles about a: the middle line of c and p meets the line through p.
PARABOLA = (*LINE, "middle m c p", "line n c p", "upright u m n", "upright v p l", "meet q u v")
CONIC = (*CIRCLE, "middle m c p", "line n c p", "upright u m n", "line v a p", "meet q u v")
# Sketches, a hand, the going one, the name, what is told.
TOLD = (
    (LINE, (0, 0, 1, 0, 0, 0, 7), "p", "p", ("line", hand_of(0, 1, 0), None)),
    (LINE, (1, 1, 1, 3, 0, 0, 0), "p", "p", ("line", hand_of(1, 0, 1), None)),
    (LINE, ("1/2", 0, 0, "1/3", 0, 0, "-9/4"), "p", "p", ("line", hand_of(1, "3/2", "1/2"), None)),
    ((*LINE, "middle m p c"), (0, 0, 1, 0, 4, 6, 7), "p", "m", ("line", hand_of(0, 1, 3), None)),
    ((*LINE, "turn t p c 1"), (0, 0, 1, 0, 0, 2, 7), "p", "t", ("line", hand_of(1, 0, 2), None)),
    ((*LINE, "foot f p l", "mirror g c l"), (0, 0, 1, 0, 0, 2, 7), "p", "f", ("line", hand_of(0, 1, 0), None)),
    ((*LINE, "along n c l", "line o p c", "free d", "line e b d", "meet q e o"), (0, 0, 1, 0, 0, 1, 3, 2, 1), "p", "q",
     ("line", hand_of(1, -1, 1), place(2, 1))),
    ((*LINE, "line m p a", "foot f c m"), (0, 0, 1, 0, 3, 2, 7), "p", "f", ("rest", place(3, 0))),
    ((*CIRCLE, "turn t p a 2", "middle m p t"), ("2/3", -1, 1, 0, 3, 2, 7), "p", "m", ("rest", place("2/3", -1))),
    (CIRCLE, (0, 0, 1, 0, 0, 0, 9), "p", "p", ("curve", (1, 0, 1, 0, 0, -1), place(-1, 0))),
    (CIRCLE, ("1/2", 0, 0, 1, 0, 0, 0), "p", "p", ("curve", (1, 0, 1, -1, 0, -1), place(1, -1))),
    ((*CIRCLE, "line l a b", "foot f p l"), (0, 0, 1, 0, 0, 0, 0), "p", "f", ("fold", hand_of(0, 1, 0))),
    (("free a", "free b", "free c", "line l a c", "circle k a b", "round p k", "foot f p l"),
     (0, 0, 1, 0, 0, 5, 4), "p", "f", ("fold", hand_of(1, 0, 0))),
    (PARABOLA, (0, 0, 1, 0, 0, 1, 3), "p", "q", ("curve", (1, 0, 0, 0, -2, 1), None)),
    (CONIC, (0, 0, 1, 0, 3, 0, 0), "p", "q", ("curve", (8, 0, -1, -24, 0, 16), place(1, 0))),
    (CONIC, (0, 0, 3, 0, 1, 0, 0), "p", "q", ("curve", (8, 0, 9, -8, 0, -16), place(-1, 0))),
    ((*LINE, "line m p c", "mirror q a m"), (0, 0, 1, 0, 0, 2, 3), "p", "q", ("curve", (1, 0, 1, 0, -4, 0), place(0, 4))),
    ((*LINE, "line m p c", "mirror q a m", "line n q p", "mirror r b n"), (0, 0, 1, 0, "2/3", 2, 3), "p", "r", ("more", 4)),
)


def known(rows, numbers):
    return lines_as_sketch(*rows), hand_of(*numbers)


def with_number(sketch, hand, going, number):
    """The hand with another number of the going one."""
    (at,) = own_places(sketch)[[step[1] for step in sketch].index(going)]
    return (*hand[:at], exact(number), *hand[at + 1:])


def place_drawn(sketch, hand, going, name, number):
    return drawn(sketch, with_number(sketch, hand, going, number))[[step[1] for step in sketch].index(name)]


def is_on(way, point):
    """Whether a point lies on what is told of a way."""
    x, y = (from_exact(number).q for number in point)
    if way[0] == "rest":
        return way[1] == point
    if way[0] == "curve":
        return sum(many * part for many, part in zip(way[1], (x * x, x * y, y * y, x, y, 1))) == 0
    a, b, c = (from_exact(number).q for number in way[1])
    return a * x + b * y == c


def ways_by_chance(first, last):
    """Sketches with a hand, the going one and each point that hangs on it."""
    ahead = (lines_as_sketch(*CIRCLE), lines_as_sketch(*LINE), lines_as_sketch(*LINE[:3], "line l b c", "upright m a l",
                                                                               "on p m"),
             lines_as_sketch(*CIRCLE[:4], "line l b a", "other q l k b", "on r l", "round p k"),
             lines_as_sketch(*CIRCLE, "line l a b", "foot f p l", "turn t p a 2", "middle m p t"),
             lines_as_sketch(*LINE, "line m p c", "mirror q a m", "line n q p"))
    for seed in range(first, last):
        chance = random.Random(seed)
        sketch = any_sketch(chance, chance.randint(7, 11), chance.choice(ahead))
        if any(step[0] == "cross" for step in sketch):
            continue
        going = chance.choice([step[1] for step in sketch if step[0] in ("on", "round")])
        hand = any_hand(chance, numbers_for(sketch))
        numbers = [number for number, step in enumerate(sketch) if step[1] == going] + list(hanging(sketch, going))
        names = [sketch[number][1] for number in numbers if sort_made(sketch[number]) == "point"]
        yield chance, sketch, hand, going, names


class Ways(unittest.TestCase):
    def way(self, *things):
        return self.told(way_of, ("sketch", "hand", "going", "name"), things)

    def at(self, *things):
        return self.told(going_at, ("sketch", "hand", "going", "name", "point"), things)

    def told(self, function, names, things):
        """What is told, or ("never", number); asked again, by names, of what is as it was."""
        ahead, found = copy.deepcopy(things), []
        for asked in (lambda: function(*things), lambda: function(**dict(reversed(list(zip(names, things)))))):
            try:
                found.append(asked())
            except errors.NeverDone as refused:
                self.assertIs(type(refused), errors.NeverDone)
                found.append(("never", refused.number))
        self.assertEqual(found[0], found[1])
        self.assertEqual(things, ahead)
        return found[0]

    def check_anew(self, sketch, hand, going, name, there, told):
        """What is told of a way against its place, reckoned anew."""
        wanted = way_anew(there)
        if wanted[0] == "curve":
            self.assertEqual((told[0], told[2]), ("curve", exacts(wanted[1])))
            self.assertTrue(is_nought_along(there, told[1]))
            self.assertEqual(primitive(told[1]), told[1])
        elif wanted[0] == "more":
            self.assertEqual(told, wanted)
        else:
            self.assertEqual(told, (wanted[0], *[exacts(part) for part in wanted[1:]]))
        for number in (0, 1, -1, 2, -3, 5, 8, Fraction(1, 2), Fraction(-2, 3), Fraction(9, 7)):
            point = place_drawn(sketch, hand, going, name, number)
            if point is not None:
                self.assertTrue(told[0] == "more" or is_on(told, point))
                self.assertEqual(exacts(place_at(there, number)), point)
            if told[0] in ("line", "curve") and place_at(there, number):
                self.assertEqual(self.at(sketch, hand, going, name, exacts(place_at(there, number))), exact(number))
            elif point is not None:
                self.assertIsNone(self.at(sketch, hand, going, name, point))
        if told[0] in ("line", "curve") and told[2] is not None:
            self.assertIsNone(self.at(sketch, hand, going, name, told[2]))


class Known(Ways):
    def test_each(self):
        for rows, numbers, going, name, wanted in TOLD:
            sketch, hand = known(rows, numbers)
            self.assertEqual(self.way(sketch, hand, going, name), wanted, (rows, numbers))

    def test_the_going_ones_own_number_changes_nothing(self):
        for rows, numbers, going, name, wanted in TOLD:
            sketch, hand = known(rows, numbers)
            for number in (0, 1, -1, "7/3", -999999, "1/999999"):
                self.assertEqual(self.way(sketch, with_number(sketch, hand, going, number), going, name), wanted)

    def test_back_to_each_number(self):
        for rows, numbers, going, name, way in TOLD:
            sketch, hand = known(rows, numbers)
            for number in (0, 1, -1, 2, -5, "1/3", "-7/4", "999999/2", "-1/999999"):
                there = place_drawn(sketch, hand, going, name, number)
                if there is None:
                    continue
                self.assertTrue(way[0] == "more" or is_on(way, there))
                wanted = exact(number) if way[0] in ("line", "curve") else None
                self.assertEqual(self.at(sketch, hand, going, name, there), wanted, (rows, number))

    def test_the_told_point_is_missed(self):
        met = 0
        for rows, numbers, going, name, way in TOLD:
            sketch, hand = known(rows, numbers)
            if way[0] in ("line", "curve") and way[2] is not None:
                self.assertTrue(is_on(way, way[2]))
                self.assertIsNone(self.at(sketch, hand, going, name, way[2]))
                met += 1
        self.assertGreater(met, 4)

    def test_points_beside(self):
        for rows, numbers, going, name, way in TOLD:
            sketch, hand = known(rows, numbers)
            for x in (-2, 0, "1/2", 3):
                for y in (-1, "3/7", 4):
                    if way[0] in ("line", "curve") and not is_on(way, place(x, y)):
                        self.assertIsNone(self.at(sketch, hand, going, name, place(x, y)))

    def test_points_of_a_curve_by_its_line(self):
        # Through the point of number 1 each line of a quotient meets the circle once more, and this point has a number.
        sketch, hand = known(CIRCLE, (0, 0, 5, 0, 0, 0, 1))
        for x, y, number in ((3, 4, "1/2"), (4, 3, "1/3"), (0, 5, 1), (-3, 4, 2), (-4, -3, -3), (5, 0, 0), (-5, 0, None),
                             (0, -5, -1),
                             (5, 5, None), ("1/2", 0, None), (0, 0, None)):
            self.assertEqual(self.at(sketch, hand, "p", "p", place(x, y)), None if number is None else exact(number))
        sketch, hand = known(PARABOLA, (0, 0, 1, 0, 0, 1, 3))
        for x, y, number in ((3, 5, 3), (0, "1/2", 0), (-1, 1, -1), (3, 4, None), ("1/2", "5/8", "1/2")):
            self.assertEqual(self.at(sketch, hand, "p", "q", place(x, y)), None if number is None else exact(number))

    def test_a_number_by_which_a_step_can_not_be_done(self):
        # By 0 p is b, and the line m can't be done; the foot's way goes through the place of its limit all the same.
        sketch, hand = known((*CIRCLE, "line m b p", "foot f c m"), (0, 0, 1, 0, 3, 2, 5))
        way = self.way(sketch, hand, "p", "f")
        self.assertEqual(way[0], "curve")
        self.assertIsNone(place_drawn(sketch, hand, "p", "f", 0))
        self.assertEqual(self.at(sketch, hand, "p", "f", place(1, 2)), exact(0))
        sketch, hand = known((*LINE, "line m p c", "foot f a m"), (0, 0, 1, 0, 3, 0, 5))
        self.assertEqual(self.way(sketch, hand, "p", "f"), ("rest", place(0, 0)))
        self.assertIsNone(place_drawn(sketch, hand, "p", "f", 3))

    def test_forms(self):
        for rows, numbers, going, name, _ in TOLD:
            sketch, hand = known(rows, numbers)
            told = self.way(sketch, hand, going, name)
            self.assertIs(type(told), tuple)
            self.check_form(told)

    def check_form(self, told):
        word = told[0]
        self.assertEqual(len(told), {"rest": 2, "line": 3, "fold": 2, "curve": 3, "more": 2}[word])
        if word == "curve":
            self.assertEqual([type(told[1]), len(told[1])], [tuple, 6])
            self.assertEqual({type(number) for number in told[1]}, {int})
            self.assertEqual(gcd(*told[1]), 1)
            self.assertGreater(next(number for number in told[1] if number), 0)
        if word in ("line", "fold"):
            self.assertEqual([type(told[1]), len(told[1])], [tuple, 3])
            self.assertEqual(next(number for number in told[1] if number.sign_of()), Exact(1))
        if word in ("line", "curve"):
            self.assertTrue(told[2] is None or type(told[2]) is tuple and len(told[2]) == 2)
        if word == "more":
            self.assertIs(type(told[1]), int)


class ByChance(Ways):
    def test_anew(self):
        met, words = {}, set()
        for chance, sketch, hand, going, names in ways_by_chance(6000, 6260):
            made = run_of(sketch, hand, going)
            for name in names:
                never = never_anew(sketch, made, name)
                told = self.way(sketch, hand, going, name)
                if never is not None:
                    self.assertEqual(told, ("never", never))
                    self.assertEqual(self.at(sketch, hand, going, name, place(1, 2)), told)
                    met["never"] = met.get("never", 0) + 1
                    continue
                word = next(step[0] for step in sketch if step[1] == name)
                words.add((told[0], word))
                met[told[0]] = met.get(told[0], 0) + 1
                self.check_anew(sketch, hand, going, name, made[name], told)
        self.assertGreater(min(met[word] for word in ("rest", "line", "curve", "never")), 10, met)
        self.assertLessEqual({"fold", "more"}, set(met), met)
        points = {word for word in PATTERNS if sort_made((word,)) == "point"} - {"free", "cross"}
        self.assertEqual({word for _, word in words}, points)

    def test_great_and_small_numbers(self):
        numbers = ("999999", "-999999/999998", "1/999999", "-999983/7", 0, "777777/999979", "123457/999983", "-1/999999")
        for rows, _, going, name, _ in TOLD:
            sketch = lines_as_sketch(*rows)
            for seed in range(4):
                chance = random.Random(seed)
                hand = hand_of(*[chance.choice(numbers) for _ in range(numbers_for(sketch))])
                made = run_of(sketch, hand, going)
                told = self.way(sketch, hand, going, name)
                never = never_anew(sketch, made, name)
                if never is not None:
                    self.assertEqual(told, ("never", never))
                else:
                    self.check_anew(sketch, hand, going, name, made[name], told)


class Never(Ways):
    def check(self, rows, numbers, name, wanted):
        sketch, hand = known(rows, numbers)
        told = self.way(sketch, hand, "p", name)
        self.assertEqual(told if wanted is not None else told[0] == "never", ("never", wanted) if wanted is not None else False)
        at = self.at(sketch, hand, "p", name, place(0, 0))
        self.assertEqual(at == ("never", wanted), wanted is not None)

    def test_steps_ahead_of_the_going_one(self):
        self.check(LINE, (1, 2, 1, 2, 0, 0, 1), "p", 3)
        self.check((*LINE, "middle m p c"), (1, 2, 1, 2, 0, 0, 1), "m", 3)
        self.check(CIRCLE, ("1/2", 0, "1/2", 0, 0, 0, 1), "p", 3)

    def test_steps_behind_it(self):
        rows = (*LINE, "along n c l", "on q n", "line m p c", "line o p q", "foot f c o", "meet x l n", "middle y x p",
                "circle k p a")
        # By some numbers p is c, q or a, and m, o, k can't be done; by none n and l meet, c being off l.
        self.check((*LINE, "line m p c", "foot f a m"), (0, 0, 1, 0, 2, 0, 1), "f", None)
        self.check(rows, (0, 0, 1, 0, 2, 1, 1, 3), "y", 10)
        self.check((*rows, "round r k"), (0, 0, 1, 0, 2, 1, 1, 3, 1), "r", None)
        self.check(rows, (0, 0, 1, 0, 2, 1, 1, 3), "f", None)
        # c on l: n is l.
        self.check(rows, (0, 0, 1, 0, 2, 0, 1, 3), "y", 10)
        self.check((*LINE, "mirror d p l", "line m p d", "foot f c m"), (0, 0, 1, 0, 2, 1, 1), "f", 6)
        self.check((*LINE, "mirror d p l", "circle k d p", "round q k"), (0, 0, 1, 0, 2, 1, 1, 0), "q", 6)

    def test_the_first_by_number(self):
        rows = ("free a", "free b", "free c", "line m a b", "line l b c", "on p l", "circle k a b", "round q k", "middle d q p",
                "line n d c", "foot e a n")
        self.check(rows, (0, 0, 0, 0, 1, 0, 3, 4), "e", 6)
        self.check(rows, (0, 0, 1, 0, 1, 0, 3, 4), "e", 4)
        self.check(rows, (0, 0, 0, 0, 0, 0, 3, 4), "e", 4)
        self.check(rows, (0, 0, 0, 0, 0, 0, 3, 4), "p", 4)

    def test_not_of_steps_on_which_it_does_not_hang(self):
        rows = ("free a", "free b", "free c", "line m a b", "line l b c", "on p l", "circle k a b", "round q k", "middle d a p")
        for name in ("p", "d"):
            self.check(rows, (0, 0, 0, 0, 1, 0, 3, 4), name, None)

    def test_class(self):
        sketch, hand = known(LINE, (1, 2, 1, 2, 0, 0, 1))
        for asked in (lambda: way_of(sketch, hand, "p", "p"), lambda: going_at(sketch, hand, "p", "p", place(0, 0))):
            with self.assertRaises(errors.PointError) as caught:
                asked()
            self.assertIs(type(caught.exception), errors.NeverDone)
            self.assertEqual(caught.exception.number, 3)


class Times(Ways):
    def test_fourteen_steps(self):
        started = time.process_time()
        heavy = (
            (*LINE, "line m p c", "mirror q a m", "line n q p", "mirror r b n", "line o r q", "mirror s c o", "line i s r",
             "mirror t p i",
             "line j t s"),
            (*CIRCLE, "line m p c", "mirror q b m", "line n q p", "mirror r c n", "line o r b", "mirror s p o", "line i s c",
             "mirror t r i", "line j t s"),
        )
        greatest = 0
        for rows in heavy:
            sketch = lines_as_sketch(*rows)
            self.assertEqual(len(sketch), 14)
            hand = hand_of("123457/999983", "777777/999979", 654321, "-99991/3", "5/7", "11/13", "-17/999")
            for name in "pqrst":
                told = self.way(sketch, hand, "p", name)
                self.at(sketch, hand, "p", name, place_drawn(sketch, hand, "p", name, 3))
                greatest = max(greatest, told[1] if told[0] == "more" else 2)
            self.assertGreater(weight_of(sketch, "t"), 70)
        self.assertGreater(greatest, 10)
        self.assertLess(time.process_time() - started, 20)
