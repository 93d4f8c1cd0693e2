import copy
import random
import unittest

from pointhouse import errors
from pointhouse.bounds import RULES
from pointhouse.drawing import drawn, numbers_for
from pointhouse.exacts import Exact
from pointhouse.rulechecks import paper_holds
from pointhouse.ruling import learn_turned, made_knowledge
from pointhouse.sayings import is_so
from tests.helper import SAYINGS, any_hand, chance_sketches, lines_as_sketch, sayings_of
from tests.rules_anew import made_rows, paper_holds_anew, told_anew

MADE = lines_as_sketch(
    "free a", "free b", "free c", "line l a b", "line m c b", "circle k a b", "on p l", "round q k", "foot f c l",
    "along n c l",
    "upright u c l", "meet x l m", "other y l k b", "middle h a c", "turn t b a 1", "turn s b a 2", "turn r b a 3",
    "mirror w c l",
    "cross z l k 0",
)
# What is made by the step of each number, by the words of point 16.
MADE_ROWS = {
    3: ("at a l", "at b l", "unlike a b"), 4: ("at c m", "at b m", "unlike c b"), 5: ("at b k", "unlike a b"), 6: ("at p l",),
    7: ("at q k",), 8: ("at f l",), 9: ("at c n",), 10: ("at c u",), 11: ("at x l", "at x m"), 12: ("at y l", "at y k"),
    13: ("row a h c", "alike a h h c"), 14: ("alike a b a t", "upright a b a t"), 15: ("alike a b a s", "row b a s"),
    16: ("alike a b a r", "upright a b a r"),
}
CIRCLE = ("free a", "free b", "circle k a b", "round p k", "round q k", "round r k", "line m b q", "line n q p")
FEET = ("free a", "free b", "free c", "free d", "line l a b", "foot f c l", "foot g d l", "line n a d", "foot e c n")
HALVES = ("free o", "free a", "free b", "free c", "middle d o a", "middle e o b", "middle f o c", "line l a b", "foot g c l")
MIRROR = ("free a", "free b", "free c", "line l a b", "mirror w c l")
# Papers of each rule: their sketches and rows, each its saying, its rule and its places.
PAPERS = (
    (CIRCLE, "at p k: made 3", "alike a p a b: round 2 0"),
    (CIRCLE, "at b k: made 2", "alike a b a b: round 2 0"),
    (("free a", "free b", "free c", "line l a b", "along n c l", "on p n", "on q l"),
     "at c n: made 4", "at p n: made 5", "at q l: made 6", "at b l: made 3", "along p c q b: along 4 1 0 2 3"),
    (("free a", "free b", "free c", "line l a b", "along n c l", "on p n", "on q l"),
     "at p n: made 5", "at q l: made 6", "along p p q q: along 4 0 0 1 1"),
    (("free a", "free b", "free c", "line l a b", "upright n c l", "on p n", "on q l"),
     "at c n: made 4", "at p n: made 5", "at q l: made 6", "at b l: made 3", "upright c p b q: upright 4 0 1 3 2"),
    (("free a", "free b", "free c", "line l a b", "upright n c l"),
     "at c n: made 4", "at a l: made 3", "upright c c a a: upright 4 0 0 1 1"),
    (FEET, "at a l: made 4", "at b l: made 4", "upright c f b a: upright 5 1 0"),
    (FEET, "at f l: made 5", "upright d g f f: upright 6 0 0"),
    (MIRROR, "at b l: made 3", "at a l: made 3", "upright c w a b: upright 4 1 0"),
    (MIRROR, "at b l: made 3", "alike b c b w: mirror 4 0"),
    (CIRCLE, "at p k: made 3", "alike a p a b: round 2 0", "alike b a a p: turned 1", "alike a b p a: turned 2"),
    (CIRCLE, "at p k: made 3", "at p k: turned 0"),
    (("free a", "free b", "middle m a b"), "row a m b: made 2", "row b a m: turned 0", "row m a b: turned 1"),
    (MADE, "upright a b a t: made 14", "upright t a a b: turned 0"),
    (MADE, "unlike a b: made 3", "unlike b a: turned 0", "at a l: made 3"),
    (MADE, "at a l: made 3", "at p l: made 6", "at b l: made 3", "row p a b: rowed 1 0 2"),
    (MADE, "at p l: made 6", "row p p p: rowed 0 0 0"),
    (CIRCLE, "at p k: made 3", "at q k: made 4", "at b k: made 2", "at r k: made 5", "ring r b p q: ringed 3 2 0 1"),
    (CIRCLE, "at p k: made 3", "at q k: made 4", "ring p q p p: ringed 0 1 0 0"),
    (CIRCLE, "at p k: made 3", "at q k: made 4", "alike a p a b: round 2 0", "alike a q a b: round 2 1",
     "alike a b a q: turned 3",
     "alike a p a q: linked 2 4"),
    (CIRCLE, "at b k: made 2", "alike a b a b: round 2 0", "alike a b a b: linked 1 1"),
    (HALVES, "along d e a b: halved 4 5", "along a b d e: turned 0", "unlike a b: made 7", "along d e d e: passed 0 1 2"),
    (FEET, "at a l: made 4", "at b l: made 4", "upright c f a b: upright 5 0 1", "upright d g a b: upright 6 0 1",
     "upright a b d g: turned 3", "unlike a b: made 4", "along c f d g: squared 2 4 5"),
    (HALVES, "at a l: made 7", "at b l: made 7", "upright c g a b: upright 8 0 1", "along d e a b: halved 4 5",
     "along a b d e: turned 3", "unlike a b: made 7", "upright c g d e: sided 2 4 5"),
    (HALVES, "row o d a: made 4", "along o d o a: bent 0"),
    (HALVES, "row o d a: made 4", "along o d o a: bent 0", "row o d a: straight 1"),
    (HALVES, "along d e a b: halved 4 5"), (HALVES, "along f d c a: halved 6 4"), (HALVES, "along d d a a: halved 4 4"),
    (MIRROR, "at a l: made 3", "at b l: made 3", "alike a c a w: mirror 4 0", "alike b c b w: mirror 4 1",
     "upright b a c w: between 3 2"),
    (MIRROR, "at a l: made 3", "alike a c a w: mirror 4 0", "upright a a c w: between 1 1"),
    (MIRROR, "at a l: made 3", "at b l: made 3", "alike a c a w: mirror 4 0", "upright c w a b: upright 4 0 1",
     "upright a b c w: turned 3", "alike b c b w: kept 4 2"),
    (MIRROR, "at a l: made 3", "alike a c a w: mirror 4 0", "angle a c w c w a: legs 1"),
    (HALVES, "along d e a b: halved 4 5", "along e f b c: halved 5 6", "angle d e f a b c: sides 0 1"),
    (CIRCLE, "at p k: made 3", "at q k: made 4", "at b k: made 2", "at r k: made 5", "ring b p q r: ringed 2 0 1 3",
     "angle b q p b r p: seen 4"),
    (CIRCLE, "at p k: made 3", "at q k: made 4", "at b k: made 2", "at r k: made 5", "ring b p q r: ringed 2 0 1 3",
     "angle b q p b r p: seen 4", "ring b p q r: rounded 5"),
    (CIRCLE, "at p k: made 3", "at q k: made 4", "at b k: made 2", "at r k: made 5", "ring b p r q: ringed 2 0 3 1",
     "angle b r p b q p: seen 4", "unlike b q: made 6", "unlike q p: made 7", "angle b q p b r p: turned 5",
     "angle b r p b r p: carried 5 8 6 7"),
    (FEET, "at a l: made 4", "at f l: made 5", "upright c f f a: upright 5 1 0", "upright f c f a: turned 2", "at a n: made 7",
     "at e n: made 8", "upright c e e a: upright 8 5 4", "upright e c e a: turned 6", "ring c a f e: corners 3 7"),
    (("free a", "free b", "middle m a b", "circle k m a", "round p k"),
     "at p k: made 4", "alike m p m a: round 3 0", "alike m a m p: turned 1", "upright p a p b: thales 2 2"),
    (("free a", "free b", "middle m a b", "turn c a m 1"),
     "alike m a m c: made 3", "upright c a c b: thales 2 0"),
)
# Of each kind one thing that is no paper.
OTHER_KINDS = (
    None, True, False, 0, 1, -7, "", "made", "at a l", (), [], {}, ((),), ([],), (None,), ("",), ((("at", "a", "l"), "made"),),
    {"made": 1}, {0: (("at", "a", "l"), "made", (3,))}, (1, 2, 3), Exact(1), (Exact(1), Exact(2)), ("at", "a", "l"),
)


def row_of(text):
    """A row written as `saying: rule places`."""
    said, _, rest = text.partition(": ")
    rule, *places = rest.split(" ")
    return tuple(said.split(" ")), rule, tuple(int(place) for place in places)


def paper_in(texts):
    return tuple(row_of(text) for text in texts)


def put(rows, at, thing):
    return (*rows[:at], thing, *rows[at + 1:])


def spoilt_rows(sketch, row, chance):
    """Rows in which one thing is put otherwise."""
    said, rule, places = row
    names = [step[1] for step in sketch]
    for at in range(len(places)):
        for other in (places[at] - 1, places[at] + 1, chance.randint(-2, 14), True, False, None, str(places[at]), -1, 60, (0,)):
            yield said, rule, put(places, at, other)
        yield said, rule, places[:at] + places[at + 1:]
        yield said, rule, (*places, places[at])
        for to in range(at):
            yield said, rule, put(put(places, at, places[to]), to, places[at])
    yield said, rule, ()
    yield said, rule, list(places)
    for at in range(1, len(said)):
        for other in (chance.choice(names), chance.choice(names), "zzz", "", None, 3):
            yield put(said, at, other), rule, places
        for to in range(1, at):
            yield put(put(said, at, said[to]), to, said[at]), rule, places
    yield list(said), rule, places
    yield said[:-1], rule, places
    yield (*said, said[-1]), rule, places
    for word in (*SAYINGS, "at", "unlike", "made", ""):
        yield (word, *said[1:]), rule, places
    for word in (*RULES, "", "makes", None, 1, ("made",)):
        yield said, word, places
    yield said, rule
    yield said, rule, places, ()
    yield [said, rule, places]
    yield rule, said, places


class Checked(unittest.TestCase):
    def holds(self, sketch, saying, thing):
        ahead = copy.deepcopy((sketch, saying, thing))
        told = paper_holds(sketch, saying, thing)
        self.assertIn(told, (True, False))
        self.assertIs(type(told), bool)
        self.assertIs(paper_holds(thing=thing, sketch=sketch, saying=saying), told)
        self.assertEqual((sketch, saying, thing), ahead)
        return told

    def check(self, sketch, thing, wanted=None):
        """Held against the words of point 16, of the saying of the last row."""
        saying = thing[-1][0]
        told = self.holds(sketch, saying, thing)
        self.assertEqual(told, paper_holds_anew(sketch, saying, thing), (sketch, thing))
        if wanted is not None:
            self.assertIs(told, wanted, thing)
        return told


class Made(Checked):
    def test_each_step(self):
        every = sorted({saying for sayings in MADE_ROWS.values() for saying in sayings})
        others = ("at b n", "at w l", "at z l", "at z k", "at x k", "at p k", "unlike b a", "unlike a p", "row a b s",
                  "row b s a",
                  "row a s b", "alike a b a w", "alike h a h c", "upright a b a s", "row c h a", "row b a t", "at c l",
                  "same a a",
                  "at a k", "unlike c a", "alike a t a b", "unlike a a")
        for number in range(len(MADE)):
            for said in (*every, *others):
                row = tuple(said.split(" ")), "made", (number,)
                wanted = said in MADE_ROWS.get(number, ())
                if said.startswith("unlike"):
                    self.check(MADE, (row, row_of("at a l: made 3")), wanted)
                else:
                    self.check(MADE, (row,), wanted)

    def test_just_one_step(self):
        for places in ((), (3, 3), (19,), (-1,), (-16,), (True,), ("3",), (None,), ((3,),), 3, [3], None):
            self.assertIs(self.holds(MADE, ("at", "a", "l"), ((("at", "a", "l"), "made", places),)), False)
        for places in ((1,), (True,)):
            # The step of number 1 is a line here.
            sketch = lines_as_sketch("free a", "free b", "line l a b")[:2]
            self.assertIs(self.holds(sketch, ("same", "a", "b"), ((("same", "a", "b"), "made", places),)), False)
        rows = (row_of("at a l: made 3"), (("at", "b", "l"), "made", (3, 0)))
        self.assertIs(self.holds(MADE, ("at", "b", "l"), rows), False)

    def test_a_truth_is_no_number(self):
        sketch = lines_as_sketch("free a", "free b", "line l a b", "on p l", "middle m a b", "middle n a p")
        paper = (row_of("row a m b: made 4"), row_of("along a m a b: bent 0"))
        self.check(sketch, paper, True)
        self.check(sketch, put(paper, 1, (paper[1][0], "bent", (False,))), False)


class Rules(Checked):
    def test_each(self):
        words = {"made"}
        for sketch, *texts in PAPERS:
            sketch, paper = lines_as_sketch(*sketch) if isinstance(sketch[0], str) else sketch, paper_in(texts)
            self.check(sketch, paper, True)
            words.add(paper[-1][1])
            for many in range(1, len(paper)):
                self.check(sketch, paper[:many], paper[many - 1][0][0] != "unlike")
        self.assertEqual(words | {"turned"}, set(RULES))

    def test_one_thing_put_otherwise(self):
        met = {}
        for number, (sketch, *texts) in enumerate(PAPERS):
            sketch, paper = lines_as_sketch(*sketch) if isinstance(sketch[0], str) else sketch, paper_in(texts)
            chance = random.Random(number)
            for at, row in enumerate(paper):
                for other in spoilt_rows(sketch, row, chance):
                    spoilt = put(paper, at, other)
                    saying = spoilt[-1][0] if len(spoilt[-1]) and type(spoilt[-1]) is tuple else row[0]
                    told = self.holds(sketch, saying, spoilt)
                    self.assertEqual(told, paper_holds_anew(sketch, saying, spoilt), (sketch, spoilt))
                    if at == len(paper) - 1:
                        met[row[1], told] = met.get((row[1], told), 0) + 1
        for rule in RULES:
            self.assertGreater(met[rule, False], 40, rule)

    def test_the_last_row_is_of_the_saying(self):
        for sketch, *texts in PAPERS:
            sketch, paper = lines_as_sketch(*sketch) if isinstance(sketch[0], str) else sketch, paper_in(texts)
            for chance in range(3):
                for saying in sayings_of(sketch, random.Random(chance)):
                    self.assertIs(self.holds(sketch, saying, paper), saying == paper[-1][0])

    def test_all_rows_are_looked_at(self):
        # The rows behind which nothing goes back to them, too.
        good = row_of("at a l: made 3")
        for bad in (row_of("at c l: made 3"), row_of("at a l: made 4"), row_of("unlike a c: made 3"),
                    row_of("same a a: turned 0"),
                    None, (), good[:2], (good[0], "make", (3,)), row_of("row a b p: rowed 0 0 0")):
            self.assertIs(self.holds(MADE, good[0], (good, good)), True)
            self.assertIs(self.holds(MADE, good[0], (bad, good)), False)
            self.assertIs(self.holds(MADE, good[0], (good, bad, good)), False)

    def test_rows_ahead_alone(self):
        sketch = lines_as_sketch(*CIRCLE)
        rows = ("at p k: made 3", "alike a p a b: round 2 0", "alike a b a p: turned 1")
        self.check(sketch, paper_in(rows), True)
        for place in (2, 3, -1, -2, -3, 0):
            self.check(sketch, paper_in((*rows[:2], f"alike a b a p: turned {place}")), False)
        self.check(sketch, paper_in((rows[0], "alike a b a p: turned 2", rows[1])), False)
        self.check(sketch, paper_in((rows[1], rows[0])), False)
        self.check(sketch, paper_in(("same a b: turned 0",)), False)
        self.check(sketch, paper_in(("same a b: turned 1", "same b a: turned 0")), False)

    def test_unlike_is_wanted(self):
        sketch = lines_as_sketch(*HALVES)
        rows = ["along d e a b: halved 4 5", "along a b d e: turned 0", "unlike a b: made 7", "unlike b a: turned 2",
                "at a l: made 7"]
        for last, wanted in (("passed 0 1 2", True), ("passed 0 1 3", False), ("passed 0 1", False), ("passed 0 1 4", False),
                             ("passed 0 1 0", False), ("passed 1 0 2", False), ("passed 0 0 2", False),
                             ("squared 0 1 2", False),
                             ("sided 0 1 2", False)):
            self.check(sketch, paper_in((*rows, f"along d e d e: {last}")), wanted)
        sketch = lines_as_sketch(*CIRCLE)
        rows = ["at p k: made 3", "at q k: made 4", "at b k: made 2", "at r k: made 5", "ring b p r q: ringed 2 0 3 1",
                "angle b r p b q p: seen 4", "unlike b q: made 6", "unlike q p: made 7", "angle b q p b r p: turned 5",
                "unlike q b: turned 6"]
        for last, wanted in (("5 8 6 7", True), ("5 8 7 6", False), ("5 8 9 7", False), ("5 8 6", False), ("5 8", False),
                             ("5 8 6 6", False), ("8 5 6 7", False), ("5 5 6 7", False)):
            self.check(sketch, paper_in((*rows, f"angle b r p b r p: carried {last}")), wanted)

    def test_unlike_is_no_last_row(self):
        rows = paper_in(("unlike a b: made 3", "unlike b a: turned 0"))
        for saying in (("unlike", "b", "a"), ("unlike", "a", "b"), ("same", "a", "b"), ("at", "a", "l")):
            for paper in (rows, rows[:1], (row_of("at a l: made 3"), *rows)):
                self.assertIs(self.holds(MADE, saying, paper), False)

    def test_sorts_of_things(self):
        # Three points at one circle are on no row, four at one line aren't told to be on a ring.
        sketch = lines_as_sketch(*CIRCLE, "on x m", "on y m")
        ats = ["at p k: made 3", "at q k: made 4", "at b k: made 2", "at r k: made 5", "at x m: made 8", "at y m: made 9",
               "at b m: made 6", "at q m: made 6"]
        self.check(sketch, paper_in((*ats, "row p q r: rowed 0 1 3")), False)
        self.check(sketch, paper_in((*ats, "ring x y b q: ringed 4 5 6 7")), False)
        self.check(sketch, paper_in((*ats, "row x y b: rowed 4 5 6")), True)
        self.check(sketch, paper_in((*ats, "ring p q b r: ringed 0 1 2 3")), True)
        self.check(sketch, paper_in((*ats, "row x y b: rowed 4 5 2")), False)
        self.check(sketch, paper_in((*ats, "ring p q b r: ringed 0 1 6 3")), False)

    def test_turned(self):
        ways = {
            "alike p q r s": "p q r s, q p r s, p q s r, q p s r, r s p q, s r p q, r s q p, s r q p",
            "angle a b c d e f": "a b c d e f, d e f a b c, c b a f e d, f e d c b a",
            "unlike p q": "p q, q p", "at p l": "p l",
        }
        ways["along p q r s"] = ways["upright p q r s"] = ways["alike p q r s"]
        for said, others in ways.items():
            word, *names = said.split(" ")
            told = told_anew((), [tuple(said.split(" "))], "turned", (0,))
            self.assertEqual(sorted(told), sorted((word, *other.split(" ")) for other in others.split(", ")))

    def test_turned_ways_alone(self):
        # Told of each saying that a paper has are just its turned ways, of all orders of its names.
        seen = set()
        for sketch, *texts in PAPERS:
            sketch, paper = lines_as_sketch(*sketch) if isinstance(sketch[0], str) else sketch, paper_in(texts)
            chance = random.Random(len(texts))
            last = row_of("at a l: made 3") if sketch == MADE else paper[0]
            for at, (said, _, _) in enumerate(paper):
                for _ in range(80):
                    names = list(said[1:])
                    chance.shuffle(names)
                    row = ((said[0], *names), "turned", (at,))
                    told = self.check(sketch, (*paper, row, last)) if last[0][0] != "unlike" else False
                    seen.add((said[0], told))
        for word in ("alike", "along", "upright", "angle", "row", "ring"):
            self.assertIn((word, True), seen)
            if word not in ("row", "ring"):
                self.assertIn((word, False), seen)


class Wanted(Checked):
    """Each saying, each step that a rule wants, put otherwise in one name: what is known of rich sketches is told on
    by the package, and held against the words of point 16."""

    RICH = (
        ("free a", "free b", "free c", "free d", "line l a b", "line m a c", "line n b c", "line o a d", "along p d l",
         "along q c l", "upright r c l",
         "on e p", "on f l", "on g q"),
        ("free a", "free b", "free c", "line l a b", "line m a c", "line n c b", "foot f c l", "foot g b m", "mirror w c l",
         "mirror v b m", "upright u b m",
         "upright r c l", "meet h u r"),
        ("free a", "free b", "circle k a b", "round p k", "round q k", "round r k", "circle j p a", "line l b p",
         "line m p q", "line n b q", "line o q r",
         "other y l k b"),
        ("free a", "free b", "free c", "middle m a b", "middle n a c", "middle o b c", "line l a b", "line k a c",
         "line j b c", "turn t b a 1",
         "turn s b a 3", "turn r c a 1", "line i a t"),
        ("free a", "free b", "turn c b a 1", "turn d b a 2", "turn e b a 3", "line l a b", "line m a c", "line n a d",
         "line o b c", "middle x b d", "circle k a b"),
        ("free a", "free b", "middle m a b", "circle k m a", "round p k", "round q k", "line l a p", "line n a q",
         "line o p b", "turn r a m 1", "middle h a p"),
        ("free o", "free a", "free b", "free c", "middle d o a", "middle e o b", "middle f o c", "line l a b", "line m b c",
         "line n a c", "foot g c l",
         "foot h a m"),
    )

    def known_of(self, sketch, most):
        known = made_knowledge(sketch, tuple(range(len(sketch))))
        for saying in list(known.ways):
            learn_turned(known, saying)
        for _ in range(3):
            for rule in RULES:
                for saying, way in known.told_further(rule)[:150]:
                    if len(known.ways) < most:
                        known.learn(saying, way)
                        learn_turned(known, saying)
        return known

    def put_together(self, known, saying, rule, steps, ahead):
        """A paper of a last row behind the papers of what it wants, its places counted anew."""
        rows, order = [], []
        for one in ahead:
            for said, by, places in known.paper_of(one):
                if said not in order:
                    many = len(known.ways[said][1])
                    order.append(said)
                    rows.append((said, by, (*places[:many], *[order.index(other) for other in known.ways[said][2]])))
        return (*rows, (saying, rule, (*steps, *[order.index(one) for one in ahead])))

    def near(self, known, saying):
        """Known sayings of the word that differ in one name."""
        return [other for other in known.ways if other[0] == saying[0] and sum(a != b for a, b in zip(other, saying)) == 1]

    def test_each_saying_that_is_wanted(self):
        met = {}
        for number, rows in enumerate(self.RICH):
            sketch, chance = lines_as_sketch(*rows), random.Random(number)
            known = self.known_of(sketch, 900)
            for rule in RULES:
                ways = [(saying, way) for saying, way in known.ways.items() if way[0] == rule and saying[0] != "unlike"]
                for saying, (_, steps, ahead) in chance.sample(ways, min(25, len(ways))):
                    self.check(sketch, self.put_together(known, saying, rule, steps, ahead), True)
                    for at, one in enumerate(ahead):
                        near = self.near(known, one)
                        for other in chance.sample(near, min(8, len(near))):
                            paper = self.put_together(known, saying, rule, steps, put(ahead, at, other))
                            names = [a == b for a, b in zip(one, other)]
                            key = rule, steps and sketch[steps[0]][0], at, names.index(False), self.check(sketch, paper)
                            met[key] = met.get(key, 0) + 1
                    for at, step in enumerate(steps):
                        for other, there in enumerate(sketch):
                            if other != step:
                                told = self.check(sketch, self.put_together(known, saying, rule, put(steps, at, other), ahead))
                                key = rule, there[0], "step", told
                                met[key] = met.get(key, 0) + 1
        self.assertEqual({key[0] for key in met if not key[-1]} | {"made"}, set(RULES))
        self.assertGreater(len(met), 150)


class Things(Checked):
    def test_other_kinds(self):
        for sketch, saying in ((MADE, ("at", "a", "l")), ((), ("same", "a", "a")), (MADE[:3], ("same", "a", "b"))):
            for thing in OTHER_KINDS:
                self.assertIs(self.holds(sketch, saying, thing), False)
                self.assertIs(self.holds(sketch, saying, (thing,)), False)
                self.assertIs(self.holds(sketch, saying, (thing, thing)), False)
        good = row_of("at a l: made 3")
        self.assertIs(self.holds(MADE, good[0], good), False)
        self.assertIs(self.holds(MADE, good[0], (good,)), True)
        for thing in OTHER_KINDS:
            for at in range(3):
                if thing != good[at]:
                    self.assertIs(self.holds(MADE, good[0], (put(good, at, thing),)), False)
            self.assertIs(self.holds(MADE, good[0], ((*good, thing),)), False)
            self.assertIs(self.holds(MADE, good[0], (good, thing)), False)
            self.assertIs(self.holds(MADE, good[0], ((good[0], "made", (thing,)),)), False)
        self.assertIs(self.holds(MADE, good[0], [good]), False)
        self.assertIs(self.holds(MADE, good[0], (list(good),)), False)
        self.assertIs(self.holds(MADE, good[0], {0: good}), False)

    def test_names_and_sorts(self):
        # However it is told, a row's saying is one of the sketch.
        for said in ("at a x", "at l a", "at a zz", "same l l", "at k k", "row a b", "row a b c d", "at a", "at", "l", ""):
            for rule in RULES:
                for places in ((3,), (0,), (3, 0), ()):
                    row = (tuple(said.split(" ")), rule, places)
                    self.assertIs(self.holds(MADE, ("at", "a", "l"), (row_of("at a l: made 3"), row)), False)

    def test_deep_and_long_ones(self):
        deep = ()
        for _ in range(29):
            deep = (deep,)
        good = row_of("at a l: made 3")
        for thing in (deep, (good, deep), (put(good, 0, deep),), (put(good, 2, deep),), ((deep, "made", (3,)), good)):
            self.assertIs(self.holds(MADE, good[0], thing), False)
        for many in (60, 61, 4000):
            self.assertIs(self.holds(MADE, good[0], (good,) * many), True)
            self.assertIs(self.holds(MADE, good[0], (good,) * many + (None,)), False)
            self.assertIs(self.holds(MADE, good[0], (None,) + (good,) * many), False)
        self.assertIs(self.holds(MADE, good[0], (put(good, 2, (3,) * 50000),)), False)
        self.assertIs(self.holds(MADE, good[0], ((good[0], "made", (10 ** 59,)),)), False)
        self.assertIs(self.holds(MADE, good[0], (("at " * 1300, "made", (3,)),)), False)
        self.assertIs(self.holds(MADE, good[0], ((good[0], "made" * 900, (3,)),)), False)

    def test_sixty_rows(self):
        sketch = lines_as_sketch(*CIRCLE)
        rows = list(paper_in(("at p k: made 3", "at q k: made 4", "at b k: made 2", "at r k: made 5",
                              "ring b p q r: ringed 2 0 1 3")))
        chance = random.Random(5)
        while len(rows) < 60:
            names = chance.sample("bpqr", 4)
            rows.append((("ring", *names), "turned", (len(rows) - 1,)))
        self.check(sketch, tuple(rows), True)
        for at in range(4, 59):
            self.check(sketch, put(tuple(rows), at, (("ring", "b", "b", "p", "q"), *rows[at][1:])), False)


class Soundness(Checked):
    def test_what_has_a_paper_holds_by_drawn_hands(self):
        met = 0
        for chance, sketch in chance_sketches(3000, 3080):
            ahead = [saying for saying, _ in made_rows(sketch)]
            rows = [(saying, "made", (number,)) for saying, number in made_rows(sketch)]
            for _ in range(400):
                rule = chance.choice(RULES[1:])
                for steps in ((), (chance.randrange(len(sketch) or 1),),
                              tuple(chance.randrange(len(sketch) or 1) for _ in "ab")):
                    for many in range(5):
                        places = tuple(chance.randrange(len(ahead) or 1) for _ in range(many))
                        for saying in told_anew(sketch, ahead, rule, steps + places)[:1]:
                            if saying not in ahead:
                                ahead.append(saying)
                                rows.append((saying, rule, steps + places))
            for at in range(len(rows)):
                if rows[at][0][0] != "unlike":
                    self.check(sketch, tuple(rows[:at + 1]), True)
            for _ in range(5):
                hand = any_hand(chance, numbers_for(sketch))
                if None in drawn(sketch, hand):
                    continue
                for saying in ahead:
                    try:
                        met += saying[0] != "unlike" and self.holding(sketch, hand, saying)
                    except errors.TwoRoots:
                        pass
        self.assertGreater(met, 1000)

    def holding(self, sketch, hand, saying):
        self.assertIs(is_so(sketch, hand, saying), True, (sketch, hand, saying))
        return True

