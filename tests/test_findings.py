import copy
import random
import unittest

from pointhouse import errors
from pointhouse.exacts import Exact
from pointhouse.findings import finding_holds
from pointhouse.general import ask
from pointhouse.generalchecks import rows_hold
from pointhouse.rulechecks import paper_holds
from pointhouse.ruling import by_rules
from pointhouse.sayings import is_so
from pointhouse.sketchtexts import show_sketch
from pointhouse.weights import weight_in, weight_of
from tests.anew import Clash, Drawer, holds
from tests.general_anew import rows_hold_anew, unknowns_of
from tests.helper import any_hand, any_sketch, exact, first_wrong, hand_of, lines_as_sketch, root, sayings_of, sort_made
from tests.rules_anew import is_saying_anew, paper_holds_anew
from tests.test_general import HOLDING
from tests.test_rulechecks import PAPERS, paper_in
from tests.test_ruling import as_sketch

SKETCH = lines_as_sketch("free a", "free b", "free c", "line l a b", "middle m a b", "foot f c l")
TEXT = show_sketch(SKETCH)
HOLDS = ("holds", TEXT, ("at", "m", "l"), ask(SKETCH, ("at", "m", "l"))[1])
RULES = ("rules", TEXT, ("upright", "c", "f", "a", "b"), by_rules(SKETCH, ("upright", "c", "f", "a", "b")))
FAILS = ("fails", TEXT, ("same", "m", "f"), ask(SKETCH, ("same", "m", "f"))[1])
OTHER_KINDS = (None, True, 0, "", "holds", (), [], {}, Exact(1), ("holds",), ("holds", TEXT),
               ("holds", TEXT, ("at", "m", "l")), list(HOLDS),
               {"holds": TEXT}, (HOLDS,), (1, 2, 3, 4), ("holds", "rules", "fails", ""), ((), (), (), ()))


def put(rows, at, thing):
    return (*rows[:at], thing, *rows[at + 1:])


def within_bounds_anew(sketch, saying):
    if len(sketch) > 14:
        return False
    weights = [weight_of(sketch, step[1]) for step in sketch]
    if None in weights or max(weights, default=0) > 6:
        return False
    unknowns, weight = len(unknowns_of(sketch)), weight_in(sketch, saying)
    return unknowns <= 3 and weight <= 12 or unknowns == 4 and weight <= 8


class Found(unittest.TestCase):
    def holds(self, thing, wanted=None):
        ahead = copy.deepcopy(thing)
        told = finding_holds(thing)
        self.assertIs(type(told), bool)
        self.assertIs(finding_holds(thing=thing), told)
        self.assertEqual(thing, ahead)
        if wanted is not None:
            self.assertIs(told, wanted, thing)
        return told


class Sorts(Found):
    def test_true_ones(self):
        for finding in (HOLDS, RULES, FAILS):
            self.holds(finding, True)

    def test_another_sort(self):
        for finding in (HOLDS, RULES, FAILS):
            for word in ("holds", "rules", "fails", "fail", "", None, 0, True, ("holds",), "Holds", "holds "):
                self.holds(put(finding, 0, word), word == finding[0])

    def test_another_text(self):
        for finding in (HOLDS, RULES, FAILS):
            for text in ("", " " + TEXT, TEXT + "\n", TEXT + " ", TEXT.replace("\n", "\n\n"), TEXT.replace(" ", "  "),
                         TEXT.replace("free", "fre"), None, 3, True,
                         SKETCH, (TEXT,), [TEXT], TEXT.replace("line l a b", "line l a a"), TEXT + "\nfree a", TEXT.upper(),
                         "\n".join(TEXT.split("\n")[:3]),
                         TEXT.replace("\n", "/")):
                self.holds(put(finding, 1, text), False)
        # Of another sketch it may hold as well, where steps and unknowns are numbered alike.
        self.holds(put(HOLDS, 1, TEXT.replace("foot f c l", "mirror f c l")), True)
        self.holds(put(RULES, 1, TEXT.replace("foot f c l", "mirror f c l")), True)
        self.holds(put(HOLDS, 1, TEXT.replace("middle m a b", "middle m a c")), False)
        self.holds(put(FAILS, 1, TEXT.replace("middle m a b", "foot m c l")), False)
        self.holds(put(RULES, 1, TEXT.replace("foot f c l", "middle f c a")), False)

    def test_another_saying(self):
        for finding in (HOLDS, RULES, FAILS):
            for saying in (("same", "a", "b"), ("same", "a", "zz"), ("at", "a", "m"), ("at", "m", "k"), ("at", "l", "m"),
                           ("unlike", "a", "b"), (), None, 0, "at m l",
                           ["at", "m", "l"], ("at", "m"), ("at", "m", "l", "l"), (("at", "m", "l"),),
                           ("upright", "c", "f", "a", "l"), {"at": "m"}, ("at", None, "l"),
                           ("at", ("m",), "l"), (None, "m", "l"), ("row", "c", "a", "b"), ("same", "m", "m")):
                wanted = finding[0] == "fails" and is_saying_anew(SKETCH, saying) and is_so(SKETCH, FAILS[3], saying) is False
                self.holds(put(finding, 2, saying), wanted)

    def test_another_thing_shown(self):
        for finding in (HOLDS, RULES, FAILS):
            for thing in (*OTHER_KINDS, HOLDS[3], RULES[3], FAILS[3], HOLDS[3][:-1], RULES[3][:-1], FAILS[3][:-1],
                          list(HOLDS[3]), list(RULES[3]), list(FAILS[3]),
                          (*HOLDS[3], HOLDS[3][0]), (*FAILS[3], exact(1))):
                self.holds(put(finding, 3, thing), thing == finding[3] and type(thing) is tuple)

    def test_more_and_fewer_parts(self):
        for finding in (HOLDS, RULES, FAILS):
            self.holds((*finding, ()), False)
            self.holds(finding[:3], False)
            self.holds(finding[1:], False)
            self.holds((finding,), False)
            self.holds(list(finding), False)

    def test_other_kinds(self):
        for thing in OTHER_KINDS:
            self.holds(thing, False)
            for finding in (HOLDS, RULES, FAILS):
                for at in range(4):
                    if thing != finding[at]:
                        self.holds(put(finding, at, thing), False)

    def test_deep_and_long_ones(self):
        deep = ()
        for _ in range(29):
            deep = (deep,)
        for finding in (HOLDS, RULES, FAILS):
            for thing in (deep, (None,) * 50000, "x" * 4000, "free a\n" * 570, ((0, ()),) * 9000, 10 ** 59):
                for at in range(4):
                    self.holds(put(finding, at, thing), False)
        self.holds(deep, False)
        self.holds(("holds",) * 60000, False)
        self.holds(put(RULES, 3, RULES[3][:1] * 5000 + RULES[3][1:2] + RULES[3][-1:]), False)
        self.holds(put(RULES, 3, RULES[3] + RULES[3][:1] * 3000 + RULES[3][-1:]), True)
        row = HOLDS[3][0]
        long = tuple(((power, 0), 1) for power in range(5000))
        self.holds(put(HOLDS, 3, ((row[0], (long, long, long)), *HOLDS[3][1:])), False)
        self.holds(put(HOLDS, 3, ((row[0], ((), (), long)), *HOLDS[3][1:])), True)
        self.holds(put(HOLDS, 3, ((row[0], ((), (), (((10 ** 59, 10 ** 58), 10 ** 59),))), *HOLDS[3][1:])), True)


class Hands(Found):
    def fails(self, rows, saying, hand, wanted):
        self.holds(("fails", "\n".join(rows), tuple(saying.split(" ")), hand), wanted)

    def test_hands(self):
        rows = ("free a", "free b", "free c", "line l a b", "foot f c l")
        for saying, numbers, wanted in (("same a c", (0, 0, 1, 0, 1, 1), True), ("same a c", (0, 0, 1, 0, 0, 0), False),
                                        ("same a c", (5, 5, 5, 5, 1, 1), True),
                                        ("at c l", (5, 5, 5, 5, 1, 1), False), ("same f c", (5, 5, 5, 5, 1, 1), False),
                                        ("at c l", (0, 0, 1, 0, 1, 1), True),
                                        ("at c l", ("1/2", 0, 1, 0, "-1/3", "7/9"), True),
                                        ("at f l", (0, 0, 1, 0, 1, 1), False),
                                        ("at c l", (0, 0, 1, 0, 1), False), ("at c l", (0, 0, 1, 0, 1, 1, 1), False),
                                        ("at c l", (), False)):
            self.fails(rows, saying, hand_of(*numbers), wanted)
        hand = hand_of(0, 0, 1, 0, 1, 1)
        for at in range(6):
            for other in (root(2), root(3, 4, top=1), 1, "1", None, True, (exact(1),)):
                self.fails(rows, "at c l", put(hand, at, other), False)
        self.fails(rows, "at c l", hand, True)
        self.fails(rows, "at c l", list(hand), False)
        # Numbers of as many figures as may be, of anything.
        self.fails(rows, "at c l", put(hand, 5, Exact(10 ** 59, 10 ** 59 + 1)), True)

    def test_it_need_not_be_the_first_hand(self):
        rows = ("free a", "free b", "free c")
        self.fails(rows, "same a b", hand_of(3, 4, 5, 6, 0, 0), True)
        self.fails(rows, "same a b", hand_of(3, 4, 3, 4, 0, 0), False)

    def test_other_steps_need_not_be_done(self):
        rows = ("free a", "free b", "line l a b", "middle m a b", "middle n b a", "line o m n")
        self.fails(rows, "same a b", hand_of(0, 0, 1, 0), True)
        self.fails(rows, "at a l", hand_of(0, 0, 1, 0), False)
        self.fails(rows, "at a o", hand_of(0, 0, 1, 0), False)


class Bounds(Found):
    def whole(self, rows, saying, wanted):
        """A true finding of each sort that there is, whether it is within bounds or not."""
        sketch, saying = lines_as_sketch(*rows), tuple(saying.split(" "))
        found = 0
        try:
            word, shown = ask(sketch, saying)
        except errors.PointError:
            word, shown = None, None
        if word is not None:
            self.assertTrue(rows_hold(sketch, saying, shown) if word == "holds" else is_so(sketch, shown, saying) is False)
            self.holds((word, "\n".join(rows), saying, shown), wanted)
            found += 1
        paper = by_rules(sketch, saying)
        if paper is not None:
            self.assertTrue(paper_holds(sketch, saying, paper))
            self.holds(("rules", "\n".join(rows), saying, paper), wanted)
            found += 1
        self.assertGreater(found, 0)
        self.assertIs(within_bounds_anew(sketch, saying), wanted)

    def test_steps(self):
        rows = ["free a", "free b", *[f"middle m{'abcdefghijklm'[at]} a b" for at in range(13)]]
        for many, wanted in ((14, True), (15, False)):
            self.whole(rows[:many], "row a ma b", wanted)
            self.whole(rows[:many], "same a b", wanted)

    def test_a_cross(self):
        rows = ["free a", "free b", "line l a b", "circle k a b"]
        for row, wanted in (("round x k", True), ("cross x l k 0", False)):
            self.whole([*rows, row], "at a l", wanted)
            self.whole([*rows, row], "same a b", wanted)
        # The cross itself has no weight: by no hand it is told.
        self.holds(("fails", "\n".join([*rows, "cross x l k 0"]), ("same", "x", "b"), hand_of(0, 0, 1, 0)), False)

    def test_a_weight_above_six(self):
        rows = ["free a", "free b", "circle k a b", "round p k", "line l p b", "mirror f a l", "turn g p f 1", "middle h f p"]
        self.assertEqual([weight_of(lines_as_sketch(*rows), name) for name in "plfgh"], [2, 2, 4, 6, 6])
        self.whole(rows, "at p k", True)
        self.whole([*rows, "middle i h b"], "at p k", True)
        self.whole([*rows, "free c"], "same c b", True)
        self.whole([*rows, "free c", "middle i h c"], "same a b", False)
        self.whole([*rows, "free c", "middle i h c"], "at p k", False)
        self.whole([*rows, "middle i h p"], "at p k", False)

    def test_unknowns(self):
        rows = ["free a", "free b", "line l a b", *[f"on p{at} l" for at in "abcde"]]
        for many, wanted in ((6, True), (7, True), (8, False)):
            self.whole(rows[:many], "at pa l", wanted)
            self.whole(rows[:many], "same a b", wanted)
            self.whole(rows[:many], "row a b pa", wanted)

    def test_weights_of_sayings(self):
        rows = ["free a", "free b", "circle k a b", "round p k", "round q k"]
        for saying, weight, wanted in (("ring p q b p", 12, True), ("ring p q p q", 16, False), ("alike p q p b", 12, True),
                                       ("alike p q p q", 16, False),
                                       ("angle p b q p b q", 8, True), ("angle p q b p b q", 10, True),
                                       ("angle p q p p q p", 16, False)):
            self.assertEqual(weight_in(lines_as_sketch(*rows), tuple(saying.split(" "))), weight)
            self.whole(rows, saying, wanted)
        # Twelve by one unknown, by two and by three; eight by four.
        one = ["free a", "free b", "line l a b", "upright m a l", "on q m", "line n q b", "mirror w a n", "turn u w q 1"]
        two = [*rows[:4], "line l a b", "on r l"]
        three = [*rows, "line l a b", "on r l"]
        for wider, saying, weight, wanted in ((one, "angle u u u q a a", 13, False), (one, "angle u u u a a a", 12, True),
                                              (two, "angle p p r p p a", 13, False), (two, "angle p p a p p a", 12, True),
                                              (three, "angle q p a p q r", 13, False), (three, "angle q p a p q a", 12, True),
                                              ([*rows, "free c"], "angle q p c c a c", 9, False),
                                              ([*rows, "free c"], "angle q p c c a a", 8, True)):
            self.assertEqual(weight_in(lines_as_sketch(*wider), tuple(saying.split(" "))), weight)
            self.whole(wider, saying, wanted)
        four = ["free a", "free b", "circle k a b", "round p k", "round q k", "free c"]
        for saying, weight, wanted in (("alike p a q a", 8, True), ("alike p q a b", 8, True), ("alike p q a c", 10, False),
                                       ("row p q c", 5, True),
                                       ("angle p b q p b q", 8, True), ("angle p b q p c q", 10, False),
                                       ("ring p q b a", 8, True), ("ring p q b c", 10, False)):
            self.assertEqual(weight_in(lines_as_sketch(*four), tuple(saying.split(" "))), weight)
            self.whole(four, saying, wanted)


class ByChance(Found):
    def wanted(self, sort, sketch, saying, shown):
        if first_wrong(sketch) is not None or not is_saying_anew(sketch, saying) or not within_bounds_anew(sketch, saying):
            return False
        if sort == "rules":
            return paper_holds_anew(sketch, saying, shown)
        if sort == "holds":
            return rows_hold(sketch, saying, shown) and rows_hold_anew(sketch, saying, shown)
        made = Drawer(sketch, shown).made
        things = [made[name] for name in saying[1:]]
        try:
            return None not in things and not holds(saying[0], things)
        except Clash:
            return False

    def test_by_chance(self):
        met = {}
        sketches = [(random.Random(2), lines_as_sketch(*rows), sayings) for rows, sayings in HOLDING]
        for seed in range(7000, 7160):
            chance = random.Random(seed)
            sketch = any_sketch(chance, chance.randint(2, 14))
            if any(sort_made(step) == "point" for step in sketch):
                sketches.append((chance, sketch, list(sayings_of(sketch, chance))))
        for chance, sketch, sayings in sketches:
            for saying in sayings:
                shown = [("fails", any_hand(chance, sum({"free": 2, "on": 1, "round": 1}.get(step[0],
                                                                                             0) for step in sketch))) for _ in range(2)]
                if within_bounds_anew(sketch, saying):
                    try:
                        shown.append(ask(sketch, saying))
                    except errors.PointError:
                        pass
                paper = by_rules(sketch, saying)
                if paper is not None:
                    shown.append(("rules", paper))
                for sort, thing in shown:
                    wanted = self.wanted(sort, sketch, saying, thing)
                    self.holds((sort, show_sketch(sketch), saying, thing), wanted)
                    met[sort, wanted] = met.get((sort, wanted), 0) + 1
        for key in (("holds", True), ("fails", True), ("fails", False), ("rules", True), ("rules", False)):
            self.assertGreater(met[key], 10, met)

    def test_papers(self):
        for rows, *texts in PAPERS:
            sketch, paper = as_sketch(rows), paper_in(texts)
            if paper[-1][0][0] != "unlike":
                wanted = within_bounds_anew(sketch, paper[-1][0])
                self.holds(("rules", show_sketch(sketch), paper[-1][0], paper), wanted)
