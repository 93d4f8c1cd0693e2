import copy
import random
import unittest
from fractions import Fraction

from pointhouse import errors
from pointhouse.drawing import drawn, is_hand, numbers_for
from pointhouse.exacts import Exact
from pointhouse.general import ask, rows_of
from pointhouse.generalchecks import rows_hold
from pointhouse.sayings import is_so
from pointhouse.sums import is_sum, worth_at
from pointhouse.weights import weight_in, weight_of
from tests.anew import holds
from tests.general_anew import (
    as_quotients, chance_drawings, chance_hand, done_and_so, first_breaking, first_refused, hand_with, needed_anew, rows_hold_anew,
    unknowns_of, worths,
)
from tests.helper import (
    PATTERNS, SAYINGS, any_sketch, hand_of, lines_as_sketch, sayings_of, sort_made,
)

TRIANGLE = ("free a", "free b", "free c", "line l a b", "line m b c", "line n c a")
# Sketches, with sayings that hold in general.
HOLDING = (
    (("free a", "free b", "free c", "middle m a b", "middle n a c", "middle o b c", "line l m n"),
     (("along", "m", "n", "b", "c"), ("alike", "m", "n", "o", "b"), ("row", "a", "m", "b"), ("at", "m", "l"),
      ("angle", "m", "n", "o", "c", "b", "a"))),
    (TRIANGLE + ("foot f c l", "mirror g c l", "middle h c g", "circle k f c"),
     (("upright", "c", "f", "a", "b"), ("row", "a", "f", "b"), ("same", "f", "h"), ("alike", "a", "c", "a", "g"),
      ("at", "f", "l"), ("at", "g", "k"), ("angle", "g", "a", "b", "b", "a", "c"), ("along", "c", "f", "g", "f"))),
    (TRIANGLE + ("upright p a m", "upright q b n", "upright r c l", "meet h p q", "meet g q r"),
     (("same", "h", "g"), ("at", "h", "r"), ("upright", "c", "h", "a", "b"))),
    (TRIANGLE + ("middle e a b", "middle f b c", "upright p e l", "upright q f m", "meet o p q", "circle k o a"),
     (("alike", "o", "a", "o", "c"), ("at", "b", "k"), ("at", "c", "k"))),
    (("free a", "free b", "free c", "middle m a b", "middle n b c", "line l c m", "line k a n", "meet s l k", "middle o a c"),
     (("row", "b", "s", "o"),)),
    (("free a", "free b", "circle k a b", "round p k", "round q k", "round r k"),
     (("ring", "b", "p", "q", "r"), ("angle", "b", "p", "q", "b", "r", "q"), ("alike", "a", "p", "a", "q"), ("at", "r", "k"))),
    (("free a", "free b", "circle k a b", "turn c b a 2", "round p k", "line l b p", "other q l k b"),
     (("upright", "b", "p", "c", "p"), ("same", "p", "q"), ("at", "q", "l"), ("ring", "b", "c", "p", "q"))),
    (("free a", "free b", "turn c b a 1", "turn d a b 3", "turn e c a 1", "line l c d", "line m a e", "along n d m"),
     (("along", "c", "d", "a", "b"), ("alike", "a", "d", "b", "c"), ("upright", "a", "d", "c", "b"), ("row", "a", "b", "e"),
      ("at", "a", "m"), ("at", "c", "n"))),
    (("free a", "free b", "free c", "line l a b", "upright m c l", "along n c l", "on p m", "on q n"),
     (("upright", "p", "c", "a", "b"), ("along", "q", "c", "b", "a"), ("upright", "p", "c", "c", "q"))),
    (("free a",), (("same", "a", "a"), ("row", "a", "a", "a"))),
    (("free a", "free b", "line l a b", "circle k a b"),
     (("at", "a", "l"), ("at", "b", "k"), ("along", "a", "b", "b", "a"), ("ring", "a", "b", "a", "b"))),
)
# The same but for a step, or a name.
FAILING = (
    (("free a", "free b", "free c", "middle m a b", "middle n a m", "middle o b c"),
     (("along", "m", "n", "b", "c"), ("alike", "m", "n", "o", "b"), ("row", "a", "m", "c"))),
    (TRIANGLE + ("foot f c n", "mirror g c m", "middle h a g"),
     (("upright", "a", "f", "a", "b"), ("same", "g", "h"), ("alike", "a", "g", "a", "b"), ("at", "c", "l"))),
    (TRIANGLE + ("upright p a m", "upright q b l", "upright r c l", "meet h p q"), (("at", "h", "r"), ("same", "h", "a"))),
    (TRIANGLE + ("middle e a b", "middle f b c", "upright p e l", "along q f m", "meet o p q", "circle k o a"),
     (("alike", "o", "a", "o", "c"), ("at", "c", "k"))),
    (("free a", "free b", "circle k a b", "round p k", "round q k", "free r"),
     (("ring", "b", "p", "q", "a"), ("at", "r", "k"), ("alike", "a", "p", "a", "r"))),
    (("free a", "free b", "circle k a b", "turn c b a 1", "round p k", "line l b p", "other q l k b"),
     (("upright", "b", "p", "c", "p"), ("same", "b", "q"))),
    (("free a", "free b"), (("same", "a", "b"), ("alike", "a", "b", "a", "a"), ("upright", "a", "b", "b", "a"))),
)

# Ahead of a step that is refused these weigh far more than is asked of where none is.
HEAVY = ("free a", "free b", "free c", "free d", "line l c d", "mirror e a l", "line m e c", "mirror f b m", "line n f d",
         "mirror g e n", "line o g f", "mirror h b o")
HEAVY_ENDS = ((("circle k a h", "cross x o k 0"), "plain"), (("mirror i h o", "line x i b"), "never"),
              (("along p a o", "meet x p o"), "never"), (("mirror i h o", "circle x b i"), "never"))


def said(function, *things):
    """What is told, or ("plain", number), ("never", number)."""
    try:
        return function(*things)
    except errors.NotPlain as refused:
        assert type(refused) is errors.NotPlain
        return "plain", refused.number
    except errors.NeverDone as refused:
        assert type(refused) is errors.NeverDone
        return "never", refused.number


def in_bounds(sketch, saying):
    weights = [weight_of(sketch, sketch[number][1]) for number in needed_anew(sketch, saying[1:])]
    most = {0: 12, 1: 12, 2: 12, 3: 12, 4: 8}.get(len(unknowns_of(sketch)))
    return most is not None and None not in weights and max(weights) <= 6 and weight_in(sketch, saying) <= most


def plain_sketches(first, last):
    """Sketches of few unknowns, most of them without crosses, with what their choice hung on."""
    for seed in range(first, last):
        chance = random.Random(seed)
        sketch = any_sketch(chance, chance.randint(1, 12))
        if len(unknowns_of(sketch)) <= 4:
            yield chance, sketch


class Asked(unittest.TestCase):
    def ask(self, sketch, saying):
        ahead = copy.deepcopy((sketch, saying))
        told = said(ask, sketch, saying)
        self.assertEqual(said(lambda: ask(saying=saying, sketch=sketch)), told)
        self.assertEqual((sketch, saying), ahead)
        self.assertIs(type(told), tuple)
        return told

    def rows(self, sketch, names):
        ahead = copy.deepcopy((sketch, names))
        told = said(rows_of, sketch, names)
        self.assertEqual(said(lambda: rows_of(names=names, sketch=sketch)), told)
        self.assertEqual((sketch, names), ahead)
        self.assertIs(type(told), tuple)
        return told

    def check_form(self, sketch, names, rows):
        unknowns = len(unknowns_of(sketch))
        self.assertEqual(tuple(number for number, _ in rows), needed_anew(sketch, names))
        for pair in rows:
            self.assertEqual([type(pair), len(pair), type(pair[0]), type(pair[1])], [tuple, 2, int, tuple])
            if sort_made(sketch[pair[0]]) == "circle":
                self.assertEqual(pair[1], ())
            else:
                self.assertEqual([is_sum(unknowns, part) for part in pair[1]], [True] * 3)

    def check_worths(self, sketch, rows, hand):
        """What the rows come to, by a hand of whole numbers, is drawn by it."""
        things, numbers = drawn(sketch, hand), worths(sketch, hand)
        for number, row in rows:
            if row and things[number] is not None:
                one, other, last = (worth_at(part, numbers) for part in row)
                if sort_made(sketch[number]) == "line":
                    lead = one or other
                    wanted = [lead and Fraction(part, lead) for part in (one, other, last)]
                else:
                    lead = last
                    wanted = [lead and Fraction(part, lead) for part in (one, other)]
                if lead:
                    self.assertEqual(as_quotients(things[number]), wanted)
                    self.met += 1


class Rows(Asked):
    def check(self, chance, sketch, names):
        rows = self.rows(sketch, names)
        self.check_form(sketch, names, rows)
        for _ in range(3):
            hand = hand_with(sketch, {at: chance.randint(-9, 9) for at in unknowns_of(sketch)})
            self.check_worths(sketch, rows, hand)
        return rows

    def test_of_sketches_of_every_word(self):
        self.met, words = 0, set()
        for chance, sketch in plain_sketches(8000, 8400):
            names = [step[1] for step in sketch]
            drawings = chance_drawings(chance, sketch)
            for many in (1, 1, 2, 3):
                asked = tuple(chance.sample(names, min(many, len(names))))
                refused = first_refused(drawings, sketch, asked)
                numbers = needed_anew(sketch, asked)
                if refused:
                    self.assertEqual(self.rows(sketch, asked), refused)
                elif max(weight_of(sketch, sketch[number][1]) for number in numbers) <= 6:
                    self.check(chance, sketch, asked)
                    words |= {sketch[number][0] for number in numbers}
        self.assertEqual(words, set(PATTERNS) - {"cross"})
        self.assertGreater(self.met, 3000)

    def test_just_the_steps_needed(self):
        self.met = 0
        sketch = lines_as_sketch("free a", "free b", "free c", "line l a b", "on p l", "circle k p c", "foot f c l", "free d")
        for names, wanted in ((("c",), (2,)), (("l",), (0, 1, 3)), (("p", "c"), (0, 1, 2, 3, 4)), (("k",), (0, 1, 2, 3, 4, 5)),
                              (("d", "a"), (0, 7)), (("f", "f"), (0, 1, 2, 3, 6)), ((), ()), (("d", "k"), (0, 1, 2, 3, 4, 5, 7))):
            rows = self.check(random.Random(1), sketch, names)
            self.assertEqual(tuple(number for number, _ in rows), wanted)

    def test_few_free_points(self):
        self.met = 0
        for rows, names in ((("free a",), "a"), (("free a", "free b"), "ab"), (("free a", "free b", "line l a b"), "l"),
                            (("free a", "free b", "circle k a b", "turn t a b 1", "middle m t b"), "mk")):
            sketch = lines_as_sketch(*rows)
            told = self.check(random.Random(1), sketch, tuple(names))
            self.assertEqual({len(powers) for _, row in told for part in row for powers, _ in part}, {0})
        self.assertEqual(self.rows((), ()), ())
        (_, (x, y, w)), = self.rows(lines_as_sketch("free a"), ("a",))
        self.assertEqual((x, y), ((), ()))
        self.assertNotEqual(w, ())
        (_, (x, y, w)), = self.rows(lines_as_sketch("free a", "free b"), ("b",))
        self.assertEqual((x, y), (w, ()))

    def test_unknowns_of_the_whole_sketch(self):
        # The unknowns are numbered in order, also those of steps that aren't needed; on stands ahead of the second free one.
        sketch = lines_as_sketch("free a", "free b", "line l a b", "on p l", "free c", "circle k a b", "round r k", "free d")
        self.met = 0
        for name, at in (("p", (0,)), ("c", (1, 2)), ("r", (3,)), ("d", (4, 5))):
            rows = self.check(random.Random(1), sketch, (name,))
            used = {k for part in rows[-1][1] for powers, _ in part for k, power in enumerate(powers) if power}
            self.assertEqual(used, set(at))
            self.assertEqual({len(powers) for part in rows[-1][1] for powers, _ in part}, {6})


class Holds(Asked):
    def test_known_sayings(self):
        words = set()
        for rows, sayings in HOLDING:
            sketch = lines_as_sketch(*rows)
            for saying in sayings:
                told = self.ask(sketch, saying)
                self.assertEqual(told[0], "holds", saying)
                self.assertEqual(len(told), 2)
                self.check_form(sketch, saying[1:], told[1])
                self.assertTrue(rows_hold(sketch, saying, told[1]))
                self.assertTrue(rows_hold_anew(sketch, saying, told[1]))
                words.add(saying[0])
        self.assertEqual(words, {*SAYINGS, "at"})

    def test_by_drawn_hands(self):
        # In general it holds by all hands, also such in which the first two free ones stand elsewhere.
        for rows, sayings in HOLDING:
            sketch = lines_as_sketch(*rows)
            for saying in sayings:
                chance = random.Random(9)
                for span in (1, 2, 99):
                    for _ in range(12):
                        many = numbers_for(sketch)
                        hand = tuple(Exact(chance.randint(-span, span), chance.randint(1, span)) for _ in range(many))
                        self.assertIn(is_so(sketch, hand, saying), (True, None), saying)
                self.assertEqual(is_so(sketch, chance_hand(chance, sketch), saying), True)

    def test_steps_that_are_idle_change_nothing(self):
        for rows, sayings in HOLDING:
            if len(rows) > 1 and len(unknowns_of(lines_as_sketch(*rows))) <= 2:
                sketch = lines_as_sketch(*rows, "free zz")
                for saying in sayings:
                    told = self.ask(sketch, saying)
                    self.assertEqual(told[0], "holds")
                    self.assertTrue(rows_hold(sketch, saying, told[1]))
                    self.assertTrue(rows_hold_anew(sketch, saying, told[1]))


class Fails(Asked):
    def check(self, sketch, saying, wanted=None):
        told = self.ask(sketch, saying)
        self.assertEqual(told[0], "fails", saying)
        self.assertEqual(len(told), 2)
        self.assertTrue(is_hand(sketch, told[1]))
        self.assertEqual(told[1], first_breaking(sketch, saying))
        self.assertIs(is_so(sketch, told[1], saying), False)
        self.assertEqual(done_and_so(sketch, told[1], saying), (True, False))
        if wanted is not None:
            self.assertEqual(told[1], hand_of(*wanted))
        return told[1]

    def test_such_as_hold_but_for_a_step(self):
        for rows, sayings in FAILING:
            for saying in sayings:
                self.check(lines_as_sketch(*rows), saying)

    def test_each_word(self):
        sketch = lines_as_sketch("free a", "free b", "free c", "free d", "line l a b", "circle k a b")
        for saying, wanted in (
                (("same", "c", "d"), (0, 0, 0, 1)), (("row", "a", "b", "c"), (0, 1, 0, 0)), (("same", "a", "b"), (0, 0, 0, 0)),
                (("along", "a", "b", "c", "d"), (0, 0, 0, 1)), (("upright", "a", "b", "c", "d"), (0, 0, 1, 0)),
                (("alike", "a", "b", "c", "d"), (0, 0, 0, 0)), (("at", "c", "l"), (0, 1, 0, 0)), (("at", "c", "k"), (0, 0, 0, 0)),
                (("at", "d", "k"), (0, 0, 0, 0)), (("ring", "a", "b", "c", "d"), (0, 1, 0, 2)),
                (("angle", "a", "b", "c", "b", "a", "d"), (0, 1, 0, 1))):
            told = self.ask(sketch, saying)
            self.assertEqual(told, ("fails", first_breaking(sketch, saying)))
            if saying[0] not in ("ring", "angle"):
                self.assertEqual(told[1], hand_of(0, 0, 1, 0, *wanted))

    def test_greater_numbers(self):
        # h is (0, 1) and d is (2, 0): what is asked of p, at (t, 0), is so where t is 0, 1 or 2.
        ahead = ("free a", "free b", "turn h b a 1", "turn d a b 2", "line l a b", "on p l")
        self.check(lines_as_sketch(*ahead), ("upright", "a", "p", "b", "p"), (0, 0, 1, 0, 2))
        self.check(lines_as_sketch(*ahead), ("angle", "p", "h", "d", "a", "p", "b"), (0, 0, 1, 0, 3))
        # With its lines p can't be at a, at b or at d.
        lines = ("line m p a", "line n p b", "line o d p")
        self.check(lines_as_sketch(*ahead, *lines), ("at", "h", "m"), (0, 0, 1, 0, 1))
        sketch = lines_as_sketch(*ahead, *lines, "foot e h m", "foot f h n", "foot g h o", "middle i e f", "mirror j i o")
        self.check(sketch, ("same", "j", "h"), (0, 0, 1, 0, 3))
        self.check(sketch, ("row", "j", "p", "h"), (0, 0, 1, 0, 3))

    def test_greater_numbers_beside_others(self):
        ahead = ("free a", "free b", "turn h b a 1", "turn d a b 2", "line l a b", "on p l", "on q l")
        self.check(lines_as_sketch(*ahead), ("angle", "p", "h", "d", "a", "q", "b"), (0, 0, 1, 0, 0, 2))
        self.check(lines_as_sketch(*ahead), ("upright", "p", "q", "q", "d"), (0, 0, 1, 0, 0, 1))
        self.check(lines_as_sketch(*ahead, "on r l"), ("angle", "p", "h", "q", "a", "r", "b"), (0, 0, 1, 0, 0, 1, 2))
        self.check(lines_as_sketch(*ahead, "on r l"), ("angle", "p", "h", "d", "q", "r", "b"), (0, 0, 1, 0, 0, 1, 0))

    def test_hands_by_which_a_step_can_not_be_done(self):
        # By the first hands c is at a or b, and its lines can't be done; then p is at a or b.
        ahead = ("free a", "free b", "free c", "line l a c", "line m b c")
        self.check(lines_as_sketch(*ahead, "meet x l m"), ("same", "x", "a"), (0, 0, 1, 0, 0, 1))
        self.check(lines_as_sketch(*ahead), ("at", "b", "l"), (0, 0, 1, 0, 0, 1))
        self.check(lines_as_sketch("free a", "free b", "line l a b", "on p l", "circle k p a", "circle j p b", "circle i a p"),
                   ("at", "b", "k"), (0, 0, 1, 0, 1))
        sketch = lines_as_sketch("free a", "free b", "line l a b", "on p l", "line m p a", "line n p b", "upright x p m",
                                 "foot f a n", "foot g b m", "middle h f g", "turn t h p 1", "line o t p")
        for saying in (("at", "h", "x"), ("same", "t", "h"), ("upright", "a", "p", "b", "p"), ("at", "f", "o")):
            told = self.ask(sketch, saying)
            wanted = first_breaking(sketch, saying, 4)
            self.assertEqual(told[0] == "holds", wanted is None, saying)
            if wanted is not None:
                self.assertEqual(told[1], wanted)

    def test_numbers_that_are_not_needed(self):
        sketch = lines_as_sketch("free a", "free b", "free c", "line l a b", "on p l")
        self.check(sketch, ("same", "p", "a"), (0, 0, 1, 0, 0, 0, 1))
        self.check(sketch, ("same", "c", "a"), (0, 0, 1, 0, 0, 1, 0))
        sketch = lines_as_sketch("free a", "free b", "free c", "free d")
        # The first two free ones stand where they stand, though the saying needs neither.
        self.check(sketch, ("same", "c", "d"), (0, 0, 1, 0, 0, 0, 0, 1))
        self.check(sketch, ("same", "b", "d"), (0, 0, 1, 0, 0, 0, 0, 0))

    def test_two_makings_of_one_point(self):
        ahead = TRIANGLE + ("middle d a b", "middle e b a", "turn f a d 2", "mirror g c l", "mirror h g l")
        for one, other, holding in (("d", "e", True), ("f", "b", True), ("h", "c", True), ("g", "c", False), ("f", "a", False)):
            sketch = lines_as_sketch(*ahead)
            self.assertEqual(self.ask(sketch, ("same", one, other))[0], "holds" if holding else "fails")

    def test_anew(self):
        met = {}
        for chance, sketch in plain_sketches(8400, 8700):
            if not any(sort_made(step) == "point" for step in sketch):
                continue
            drawings = chance_drawings(chance, sketch)
            for saying in sayings_of(sketch, chance):
                refused = first_refused(drawings, sketch, saying[1:])
                told = None
                if refused:
                    told = self.ask(sketch, saying)
                    self.assertEqual(told, refused, (sketch, saying))
                elif in_bounds(sketch, saying):
                    told = self.ask(sketch, saying)
                    if told[0] == "holds":
                        self.assertTrue(rows_hold(sketch, saying, told[1]))
                        self.check_form(sketch, saying[1:], told[1])
                        for made in drawings:
                            self.assertTrue(holds(saying[0], [made[name] for name in saying[1:]]))
                    else:
                        self.assertEqual(told, ("fails", first_breaking(sketch, saying)), (sketch, saying))
                if told:
                    met[told[0]] = met.get(told[0], 0) + 1
                    met[saying[0], told[0]] = met.get((saying[0], told[0]), 0) + 1
        self.assertGreater(min(met[word] for word in ("holds", "fails", "plain", "never")), 10, met)
        for word in [*SAYINGS, "at"]:
            self.assertGreater(met[word, "holds"], 5)
            self.assertGreater(met[word, "fails"], 5)


class Refused(Asked):
    # Never done: l at 4, since m and n are one point; x at 7, since o and u are along one another; k at 8.
    SKETCH = lines_as_sketch("free a", "free b", "middle m a b", "middle n b a", "line l m n", "line o a b", "along u m o",
                             "meet x o u", "circle k m n", "circle j a b", "cross y o j 0", "line p y m", "on q p", "free c",
                             "cross z l j 1")

    def check(self, names, wanted, sketch=None):
        sketch = sketch or self.SKETCH
        self.assertEqual(self.rows(sketch, names), wanted)
        points = tuple(name for name in names for step in sketch if step[1] == name and sort_made(step) == "point")
        saying = ("at", points[0] if points else "a", names[-1]) if len(points) < len(names) else \
            ("row", *(points * 3)[:3]) if len(points) < 4 else ("ring", *points[:4])
        self.assertEqual(self.ask(sketch, saying), wanted)
        self.assertIs(rows_hold(sketch, saying, ()), False)

    def test_each(self):
        self.check(("l",), ("never", 4))
        self.check(("x",), ("never", 7))
        self.check(("k",), ("never", 8))
        self.check(("y",), ("plain", 10))
        self.check(("p",), ("plain", 10))
        self.check(("q",), ("plain", 10))

    def test_the_first_by_number(self):
        self.check(("z",), ("never", 4))
        self.check(("y", "x"), ("never", 7))
        self.check(("x", "y"), ("never", 7))
        self.check(("z", "y"), ("never", 4))
        self.check(("q", "k"), ("never", 8))
        sketch = lines_as_sketch("free a", "free b", "line o a b", "circle j a b", "cross y o j 0", "middle m a b", "middle n b a",
                                 "line l m n", "line p y n")
        self.check(("y", "l"), ("plain", 4), sketch)
        self.check(("m", "l"), ("never", 7), sketch)
        self.check(("y", "p"), ("plain", 4), sketch)

    def test_not_where_such_a_step_is_not_needed(self):
        for saying in (("same", "m", "n"), ("at", "m", "o"), ("at", "m", "u"), ("row", "a", "b", "n")):
            told = self.ask(self.SKETCH, saying)
            self.assertEqual(told[0], "holds")
            self.assertTrue(rows_hold(self.SKETCH, saying, told[1]))
        for saying in (("same", "m", "c"), ("at", "c", "j"), ("at", "c", "u")):
            self.assertEqual(self.ask(self.SKETCH, saying), ("fails", first_breaking(self.SKETCH, saying)))
        self.assertEqual([number for number, _ in self.rows(self.SKETCH, ("u", "c"))], [0, 1, 2, 5, 6, 13])

    def test_never_done_by_unknowns(self):
        # However c stands, its mirror's mirror is c, a line and one along it don't meet, and a foot on a line is its own foot.
        ahead = TRIANGLE + ("mirror d c l", "mirror e d l", "along o c l", "along p d l", "foot f c l", "foot g f l")
        sketch = lines_as_sketch(*ahead)
        for row, never in (("line z c e", True), ("circle z e c", True), ("line z c d", False), ("meet z o p", True),
                           ("meet z l o", True), ("meet z o m", False), ("line z f g", True), ("circle z f c", False),
                           ("line z e f", False), ("circle z g f", True)):
            wider = sketch + lines_as_sketch(row)
            told = self.rows(wider, ("z",))
            if never:
                self.assertEqual(told, ("never", len(sketch)), row)
            else:
                self.assertEqual(told[-1][0], len(sketch))

    def test_heavy_things_are_refused_at_once(self):
        # By sums of so many powers this would take minutes.
        for last, wanted in HEAVY_ENDS:
            sketch = lines_as_sketch(*HEAVY, *last)
            self.assertGreater(weight_of(sketch, "h"), 70)
            self.check(("x",), (wanted, 13), sketch)
        self.assertEqual(self.ask(sketch, ("at", "e", "x")), ("never", 13))

    def test_classes(self):
        for sketch, saying, kind, other in ((self.SKETCH, ("at", "a", "l"), errors.NeverDone, errors.NotPlain),
                                            (self.SKETCH, ("same", "y", "a"), errors.NotPlain, errors.NeverDone)):
            for asked in (lambda: ask(sketch, saying), lambda: rows_of(sketch, saying[1:])):
                with self.assertRaises(errors.PointError) as caught:
                    asked()
                self.assertIs(type(caught.exception), kind)
                self.assertIsInstance(caught.exception, ValueError)
                self.assertNotIsInstance(caught.exception, (other, errors.TwoRoots, KeyError, ZeroDivisionError))


class Bounds(Asked):
    def test_twelve_by_three_unknowns(self):
        circle = ("free a", "free b", "circle k a b", "round p k", "round q k", "round r k")
        sketch = lines_as_sketch(*circle)
        for saying in (("ring", "p", "q", "r", "b"), ("angle", "p", "q", "r", "p", "b", "r")):
            self.assertEqual((len(unknowns_of(sketch)), weight_in(sketch, saying)), (3, 12))
            self.assertEqual(self.ask(sketch, saying)[0], "holds")
        sketch = lines_as_sketch("free a", "free b", "free c", "line l a c", "on p l", "mirror f b l", "line m f p", "foot h a m",
                                 "mirror g h l")
        self.assertEqual([weight_of(sketch, name) for name in "plfmhg"], [2, 1, 2, 4, 8, 10])
        sketch = lines_as_sketch("free a", "free b", "free c", "line l a c", "on p l", "mirror f b l", "middle h f p", "line m p b",
                                 "mirror g a m", "mirror e g m", "middle d g p", "circle k g f", "turn t p g 1")
        self.assertEqual([weight_of(sketch, name) for name in "plfhmgdk"], [2, 1, 2, 4, 2, 4, 6, 6])
        for saying in (("at", "a", "k"), ("row", "d", "h", "p"), ("same", "d", "a"), ("alike", "p", "b", "b", "g"),
                       ("along", "d", "p", "g", "a"), ("row", "t", "g", "p"), ("alike", "t", "a", "b", "b")):
            self.assertLessEqual(weight_in(sketch, saying), 12, saying)
            self.assertIn(self.ask(sketch, saying)[0], ("holds", "fails"))

    def test_eight_by_four_unknowns(self):
        sketch = lines_as_sketch("free a", "free b", "free c", "free d", "line l a c", "line m b d", "meet e l m", "foot f e l",
                                 "turn g c d 1", "mirror h g l", "line n a d", "foot i c n", "middle j i f")
        self.assertEqual([weight_of(sketch, name) for name in "lmefghi"], [1, 1, 2, 4, 2, 4, 3])
        for saying, holding in ((("row", "a", "f", "c"), True), (("same", "e", "c"), False), (("at", "f", "l"), True),
                                (("along", "e", "f", "g", "a"), True), (("upright", "h", "g", "a", "c"), True),
                                (("angle", "c", "a", "g", "h", "a", "c"), True), (("row", "d", "h", "i"), False),
                                (("alike", "a", "g", "d", "c"), False), (("upright", "c", "i", "i", "a"), True)):
            self.assertLessEqual(weight_in(sketch, saying), 9, saying)
            self.assertEqual(self.ask(sketch, saying)[0], "holds" if holding else "fails", saying)
