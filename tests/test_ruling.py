import copy
import random
import time
import unittest

from pointhouse import errors
from pointhouse.bounds import ROWS, RULES
from pointhouse.drawing import drawn, numbers_for
from pointhouse.general import ask
from pointhouse.rulechecks import paper_holds
from pointhouse.ruling import by_rules
from pointhouse.sayings import is_so
from tests.general_anew import chance_hand
from tests.helper import any_hand, any_sketch, chance_sketches, hand_of, lines_as_sketch, sayings_of, sort_made
from tests.rules_anew import least_rows, paper_holds_anew
from tests.test_general import in_bounds
from tests.test_rulechecks import CIRCLE, FEET, HALVES, MADE, MIRROR, PAPERS, paper_in

# Sayings that one row behind made ones tells, by the rule of this row, and how many rows the shortest such paper has.
ONE_ROW = (
    (MADE, "at a l", "made", 1), (MADE, "row a h c", "made", 1), (MADE, "alike a b a t", "made", 1),
    (MADE, "upright a b a r", "made", 1),
    (MADE, "at x m", "made", 1), (CIRCLE, "alike a p a b", "round", 2), (CIRCLE, "alike a b a b", "round", 2),
    (("free a", "free b", "free c", "line l a b", "along n c l", "on p n", "on q l"), "along p c q b", "along", 5),
    (("free a", "free b", "free c", "line l a b", "along n c l", "on p n", "on q l"), "along p c b b", "along", 4),
    (("free a", "free b", "free c", "line l a b", "along n c l", "on p n", "on q l"), "along p p a a", "along", 3),
    (("free a", "free b", "free c", "line l a b", "upright n c l", "on p n"), "upright p c a b", "upright", 5),
    (FEET, "upright c f a b", "upright", 3), (FEET, "upright d g f b", "upright", 3), (FEET, "upright d g f f", "upright", 2),
    (MIRROR, "upright c w a b", "upright", 3), (MIRROR, "alike b c b w", "mirror", 2), (MADE, "alike t a b a", "turned", 2),
    (MADE, "row s a b", "turned", 2), (MADE, "upright t a b a", "turned", 2), (MADE, "row p a b", "rowed", 4),
    (MADE, "row p a a", "rowed", 3), (MADE, "row p p p", "rowed", 2), (CIRCLE, "ring p q r b", "ringed", 5),
    (CIRCLE, "ring p q p b", "ringed", 4), (CIRCLE, "ring p p q q", "ringed", 3), (CIRCLE, "ring p p p p", "ringed", 2),
    (("free a", "free b", "turn c b a 1", "turn d c a 3"), "alike a b a d", "linked", 3),
    (("free a", "free b", "turn c b a 1", "turn d c a 1", "line l a c"), "along a b a d", "squared", 4),
    (MADE, "along a h a c", "bent", 2), (HALVES, "along d e a b", "halved", 1), (HALVES, "along d d a a", "halved", 1),
    (("free a", "free b", "turn c b a 1", "turn d b a 3"), "angle a b c b c a", "legs", 2),
    (("free a", "free b", "turn c b a 1"), "upright a a b c", "between", 2),
    (("free c", "free a", "turn b a c 1"), "ring a b c c", "corners", 2),
    (("free a", "free b", "middle m a b", "turn c a m 1"), "upright c a c b", "thales", 2),
    (("free a", "free b", "middle m a b", "turn c a m 2"), "upright c a c b", "thales", 2),
)
# Sayings that come by more rows, known by name.
MORE_ROWS = (
    (CIRCLE, "alike a p a q"), (CIRCLE, "angle b q p b r p"), (CIRCLE, "angle a p q p q a"),
    (("free a", "free b", "middle m a b", "circle k m a", "round p k"), "upright p a p b"),
    (("free a", "free b", "free c", "free d", "middle m b a", "middle n b c", "middle o d c", "middle p d a", "line l a c"),
     "along m n p o"),
    (MIRROR, "upright a b c w"), (MIRROR, "angle a c w c w a"), (HALVES, "angle d e f a b c"), (FEET, "along c f d g"),
    (FEET, "ring c a f e"), (HALVES, "upright c g d e"),
)
FAILING = (
    (CIRCLE, "alike a p b p"), (CIRCLE, "row b p q"), (CIRCLE, "same p q"), (HALVES, "along d f a b"), (MIRROR, "at w l"),
    (FEET, "upright c f c g"), (MADE, "angle a b c a c b"), (MADE, "ring a b c t"), (MADE, "along a b c t"), (MADE, "at c l"),
)


def as_sketch(rows):
    return rows if not rows or not isinstance(rows[0], str) else lines_as_sketch(*rows)


class Ruled(unittest.TestCase):
    def ask(self, sketch, saying, most=None):
        ahead = copy.deepcopy((sketch, saying))
        if most is None:
            told = by_rules(sketch, saying)
            self.assertEqual(by_rules(saying=saying, sketch=sketch), told)
            most = ROWS
        else:
            told = by_rules(sketch, saying, most=most)
        self.assertEqual(by_rules(most=most, saying=saying, sketch=sketch), told)
        self.assertEqual((sketch, saying), ahead)
        if told is not None:
            self.assertIs(type(told), tuple)
            self.assertLessEqual(len(told), most)
            self.assertIs(paper_holds(sketch, saying, told), True)
            self.assertTrue(paper_holds_anew(sketch, saying, told))
        return told


class OneRow(Ruled):
    def test_each_rule(self):
        met = set()
        for rows, said, rule, many in ONE_ROW:
            sketch, saying = as_sketch(rows), tuple(said.split(" "))
            self.assertIsNotNone(self.ask(sketch, saying), said)
            self.assertEqual(self.ask(sketch, saying, many)[-1][:2], (saying, rule))
            self.assertIsNotNone(self.ask(sketch, saying, many + 1))
            self.assertIsNone(self.ask(sketch, saying, many - 1), said)
            self.assertIsNone(self.ask(sketch, saying, 0))
            met.add(rule)
        # By the others no row stands behind made ones alone: none of these tells what they want.
        self.assertEqual(met | {"passed", "sided", "straight", "sides", "seen", "rounded", "carried", "kept"}, set(RULES))

    def test_just_as_many_as_are_needed(self):
        met = {}
        for rows in (*{rows for rows, _, _, _ in ONE_ROW if len(as_sketch(rows)) < 9}, *SMALL):
            sketch = as_sketch(rows)
            least = least_rows(sketch)
            for saying, many in sorted(least.items()):
                if saying[0] == "unlike":
                    continue
                told = self.ask(sketch, saying, many)
                self.assertIsNotNone(told, (sketch, saying, many))
                for most in range(many):
                    self.ask(sketch, saying, most)
                self.assertIsNotNone(self.ask(sketch, saying, many + 1))
                self.assertIsNotNone(self.ask(sketch, saying, ROWS))
                met[told[-1][1]] = met.get(told[-1][1], 0) + 1
        self.assertLessEqual({"made", "round", "along", "upright", "mirror", "turned", "rowed", "ringed", "linked", "squared",
                              "bent",
                              "halved", "between", "legs", "corners", "thales"}, set(met), met)

    def test_by_chance(self):
        met = 0
        for seed in range(4000, 4300):
            chance = random.Random(seed)
            sketch = any_sketch(chance, chance.randint(2, 6))
            if len(sketch) and sum(len(row) for row in sketch) < 24:
                for saying, many in sorted(least_rows(sketch).items()):
                    if saying[0] != "unlike":
                        self.assertIsNotNone(self.ask(sketch, saying, many), (sketch, saying, many))
                        met += 1
        self.assertGreater(met, 1000)

    def test_none_and_few_rows(self):
        for rows, said, rule, many in ONE_ROW:
            sketch, saying = as_sketch(rows), tuple(said.split(" "))
            for most in (-1, 0):
                self.assertIsNone(self.ask(sketch, saying, most))
            if rule not in ("made", "halved"):
                self.assertIsNone(self.ask(sketch, saying, 1))


# Sketches of few steps of which many rules tell at once.
SMALL = (
    ("free a", "free b", "turn c b a 1", "turn d c a 2", "middle m b c"),
    ("free a", "free b", "turn c a b 1", "turn d b a 3", "line l a b"),
    ("free a", "free b", "middle m a b", "turn c a m 3", "turn d b m 1"),
    ("free a", "free b", "circle k a b", "round p k", "turn q p a 1"),
    ("free a", "free b", "free c", "line l a b", "foot f c l", "on g l"),
    ("free p", "free a", "turn b a p 2", "turn q p a 1", "middle r a b"),
)


class MoreRows(Ruled):
    def test_known_ones(self):
        for rows, said in MORE_ROWS:
            sketch, saying = as_sketch(rows), tuple(said.split(" "))
            told = self.ask(sketch, saying)
            self.assertIsNotNone(told, said)
            self.assertNotIn(saying, least_rows(sketch) if len(sketch) < 8 else ())
            self.assertIsNotNone(self.ask(sketch, saying, len(told)))

    def test_all_papers_known(self):
        for rows, *texts in PAPERS:
            sketch, paper = as_sketch(rows), paper_in(texts)
            if paper[-1][0][0] != "unlike" and all(rule == "made" for _, rule, _ in paper[:-1]):
                self.assertIsNotNone(self.ask(sketch, paper[-1][0], len(set(paper))), paper)

    def test_sayings_that_do_not_hold(self):
        for rows, said in FAILING:
            sketch, saying = as_sketch(rows), tuple(said.split(" "))
            for most in (None, 1, 5, 60):
                self.assertIsNone(self.ask(sketch, saying, most))


class Soundness(Ruled):
    def test_what_rules_show_holds(self):
        met, shown = 0, 0
        for chance, sketch in chance_sketches(5000, 5120):
            if not any(sort_made(step) == "point" for step in sketch):
                continue
            hands = [any_hand(chance, numbers_for(sketch)) for _ in range(6)] + [chance_hand(chance, sketch)]
            for saying in sayings_of(sketch, chance):
                told = self.ask(sketch, saying)
                if told is None:
                    continue
                met += 1
                for hand in hands:
                    if None not in drawn(sketch, hand):
                        try:
                            self.assertIs(is_so(sketch, hand, saying), True, (sketch, saying, hand))
                        except errors.TwoRoots:
                            pass
                if None not in drawn(sketch, hands[-1]) and not any(step[0] == "cross" for step in sketch):
                    if in_bounds(sketch, saying):
                        self.assertEqual(ask(sketch, saying)[0], "holds")
                        shown += 1
        self.assertGreater(met, 60)
        self.assertGreater(shown, 15)

    def test_what_fails_has_no_paper(self):
        failing = 0
        for seed in range(5200, 5300):
            chance = random.Random(seed)
            sketch = any_sketch(chance, chance.randint(2, 10))
            for saying in sayings_of(sketch, chance) if any(sort_made(step) == "point" for step in sketch) else ():
                try:
                    if not in_bounds(sketch, saying):
                        continue
                    told = ask(sketch, saying)
                except errors.PointError:
                    continue
                if told[0] == "fails" and None not in drawn(sketch, told[1]):
                    self.assertIsNone(self.ask(sketch, saying))
                    failing += 1
        self.assertGreater(failing, 100)

    def test_sketches_whose_steps_can_not_all_be_done(self):
        # Of such ones rules may show what no hand shows: what has a paper is still let by.
        sketch = lines_as_sketch("free a", "free b", "middle m a b", "middle n b a", "line l m n", "on p l")
        self.assertEqual(drawn(sketch, hand_of(0, 0, 1, 0, 3))[4:], (None, None))
        self.assertIsNotNone(self.ask(sketch, ("at", "p", "l"), 1))


class Times(Ruled):
    def test_fourteen_steps(self):
        points = "cdefghijnpq"
        started = time.process_time()
        for ahead, more in ((("free a", "free b", "circle k a b"), "round {} k"),
                            (("free a", "free b", "line l a b"), "on {} l"),
                            (("free a", "free b", "line l a b"), "mirror {} a l")):
            rows = [*ahead, *[more.format(name) for name in points]]
            if more.startswith("mirror"):
                rows = ["free a", "free b", "free c", "line l b c", "mirror d a l", "mirror e d l", "foot f a l", "foot g d l",
                        "upright u a l", "along v a l", "meet x u l", "other y u w a", "middle m a d", "turn t a f 2"]
                rows[11] = "middle y d x"
            sketch = lines_as_sketch(*rows)
            self.assertEqual(len(sketch), 14)
            chance = random.Random(3)
            for saying in sayings_of(sketch, chance):
                self.ask(sketch, saying)
        for seed in range(5300, 5308):
            chance = random.Random(seed)
            sketch = any_sketch(chance, 14)
            for saying in sayings_of(sketch, chance):
                self.ask(sketch, saying)
        self.assertLess(time.process_time() - started, 60)
