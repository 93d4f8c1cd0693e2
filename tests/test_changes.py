import copy
import random
import unittest

from pointhouse import errors
from pointhouse.changes import hand_without, paper_renamed, paper_without, renamed, rows_without, without
from pointhouse.drawing import drawn, is_hand, numbers_for
from pointhouse.general import ask
from pointhouse.generalchecks import rows_hold
from pointhouse.rulechecks import paper_holds
from pointhouse.ruling import by_rules
from pointhouse.steps import is_sketch
from pointhouse.sums import is_sum, times
from tests.general_anew import needed_anew, own_places, unknowns_of
from tests.helper import PATTERNS, SKETCHES, any_hand, any_sketch, chance_sketches, hand_of, lines_as_sketch, sayings_of, sort_made
from tests.house_anew import gone_anew, left_of_hand, renamed_anew
from tests.rules_anew import STEPS_BORNE
from tests.test_general import HOLDING, in_bounds
from tests.test_rulechecks import PAPERS, paper_in
from tests.test_ruling import as_sketch

WIDE = lines_as_sketch("free a", "free b", "free c", "line l a b", "on p l", "circle k p c", "round q k", "free d",
                       "foot f d l")


def rows_without_anew(sketch, rows, name):
    """Rows by the words of point 20."""
    gone = gone_anew(sketch, name)
    frees = [step[1] for step in sketch if step[0] == "free"][:2]
    if set(gone) & {sketch[number][1] for number, _ in rows} or set(gone) & set(frees):
        return None
    of_gone = [at for step, places in zip(sketch, own_places(sketch)) if step[1] in gone for at in places]
    unknowns = unknowns_of(sketch)
    if any(powers[unknowns.index(at)] for _, row in rows for one in row for powers, _ in one for at in of_gone):
        return None
    stay = [at for at, place in enumerate(unknowns) if place not in of_gone]
    left = [step[1] for step in sketch if step[1] not in gone]
    return tuple(
        (left.index(sketch[number][1]), tuple(tuple((tuple(powers[at] for at in stay), many) for powers,
                                                    many in one) for one in row))
        for number, row in rows
    )


def paper_without_anew(sketch, paper, name):
    gone = gone_anew(sketch, name)
    left = [step[1] for step in sketch if step[1] not in gone]
    rows = []
    for saying, rule, places in paper:
        many = STEPS_BORNE.get(rule, 0)
        steps = [sketch[place][1] for place in places[:many]]
        if set(steps) & set(gone) or set(saying[1:]) & set(gone):
            return None
        rows.append((saying, rule, (*[left.index(step) for step in steps], *places[many:])))
    return tuple(rows)


class Changed(unittest.TestCase):
    def ask(self, function, **things):
        """What is told by places and by names; what is handed in stays as it is."""
        ahead = copy.deepcopy(things)
        told = function(*things.values())
        self.assertEqual(function(**dict(reversed(things.items()))), told)
        self.assertEqual(things, ahead)
        self.assertIn(type(told), (tuple, type(None)))
        return told


class Without(Changed):
    def test_known(self):
        for name, went in (("a", "a l p k q f"), ("b", "b l p k q f"), ("c", "c k q"), ("l", "l p k q f"), ("p", "p k q"),
                           ("k", "k q"),
                           ("q", "q"), ("d", "d f"), ("f", "f")):
            left, gone = self.ask(without, sketch=WIDE, name=name)
            self.assertEqual(gone, tuple(went.split(" ")))
            self.assertEqual(left, tuple(step for step in WIDE if step[1] not in gone))
        self.assertEqual(without(lines_as_sketch("free a"), "a"), ((), ("a",)))

    def test_each_step_of_sketches_of_all_words(self):
        words = set()
        for sketch in [*SKETCHES, *[sketch for _, sketch in chance_sketches(0, 120)]]:
            hand = any_hand(random.Random(1), numbers_for(sketch))
            for step in sketch:
                left, gone = self.ask(without, sketch=sketch, name=step[1])
                self.assertEqual(list(gone), gone_anew(sketch, step[1]))
                self.assertEqual(left, tuple(one for one in sketch if one[1] not in gone))
                self.assertTrue(is_sketch(left))
                words.add(step[0])
                rest = self.ask(hand_without, sketch=sketch, hand=hand, name=step[1])
                self.assertEqual(rest, left_of_hand(sketch, hand, gone))
                self.assertTrue(is_hand(left, rest))
                # What stays is drawn as ahead.
                things = dict(zip([one[1] for one in sketch], drawn(sketch, hand)))
                self.assertEqual(drawn(left, rest), tuple(things[one[1]] for one in left))
        self.assertEqual(words, set(PATTERNS))

    def test_hands(self):
        hand = hand_of(1, 2, 3, 4, 5, 6, 7, 8, 9, 10)
        for name, left in (("a", (3, 4, 5, 6, 9, 10)), ("b", (1, 2, 5, 6, 9, 10)), ("c", (1, 2, 3, 4, 7, 9, 10)),
                           ("p", (1, 2, 3, 4, 5, 6, 9, 10)),
                           ("q", (1, 2, 3, 4, 5, 6, 7, 9, 10)), ("d", (1, 2, 3, 4, 5, 6, 7, 8)), ("f", tuple(range(1, 11)))):
            self.assertEqual(self.ask(hand_without, sketch=WIDE, hand=hand, name=name), hand_of(*left))


class Renamed(Changed):
    def check(self, sketch, calls):
        told = self.ask(renamed, sketch=sketch, calls=calls)
        self.assertEqual(told, tuple(renamed_anew(step, dict(calls)) for step in sketch))
        self.assertTrue(is_sketch(told))
        back = tuple((new, old) for old, new in calls)
        self.assertEqual(renamed(told, back), sketch)
        hand = any_hand(random.Random(2), numbers_for(sketch))
        self.assertEqual(drawn(told, hand), drawn(sketch, hand))
        return told

    def test_known(self):
        sketch = lines_as_sketch("free a", "free b", "line l a b", "on p l", "turn t a p 3")
        self.assertEqual(self.check(sketch, ()), sketch)
        self.assertEqual(self.check(sketch, (("a", "c"),)), lines_as_sketch("free c", "free b", "line l c b", "on p l",
                                                                            "turn t c p 3"))
        self.assertEqual(self.check(sketch, (("a", "b"), ("b", "a"))),
                         lines_as_sketch("free b", "free a", "line l b a", "on p l", "turn t b p 3"))
        self.assertEqual(self.check(sketch, (("a", "b"), ("b", "l"), ("l", "p"), ("p", "t"), ("t", "a"))),
                         lines_as_sketch("free b", "free l", "line p b l", "on t p", "turn a b t 3"))
        self.assertEqual(self.check(sketch, (("t", "turn"), ("a", "free"), ("l", "line"))),
                         lines_as_sketch("free free", "free b", "line line free b", "on p line", "turn turn free p 3"))
        self.assertEqual(self.check(sketch, (("a", "a"),)), sketch)

    def test_words_are_no_names(self):
        sketch = SKETCHES[4]
        self.assertIn("free", [step[1] for step in sketch])
        told = self.check(sketch, (("free", "x"), ("line", "free"), ("on", "line")))
        self.assertEqual([step[0] for step in told], [step[0] for step in sketch])

    def test_each(self):
        for sketch in [*SKETCHES, *[sketch for _, sketch in chance_sketches(200, 260)]]:
            names = [step[1] for step in sketch]
            chance = random.Random(len(names))
            for name in names:
                self.check(sketch, ((name, "newname"),))
            if len(names) > 1:
                one, other = chance.sample(names, 2)
                self.check(sketch, ((one, other), (other, one)))
            others = list(names)
            chance.shuffle(others)
            self.check(sketch, tuple(zip(names, others)))
            self.check(sketch, tuple((name, f"n{'abcdefghijklmnop'[at]}") for at, name in enumerate(names)))
            self.check(sketch, ())


class Rows(Changed):
    def check(self, sketch, rows, name):
        told = self.ask(rows_without, sketch=sketch, rows=rows, name=name)
        self.assertEqual(told, rows_without_anew(sketch, rows, name), (sketch, name))
        return told

    def test_known(self):
        # p's number stands at 2 of WIDE's unknowns, q's at 3, d's at 4 and 5.
        saying = ("at", "p", "l")
        _, rows = ask(WIDE, saying)
        self.assertEqual([number for number, _ in rows], [0, 1, 3, 4])
        for name in ("a", "b", "l", "p"):
            self.assertIsNone(self.check(WIDE, rows, name))
        for name, numbers, unknowns in (("c", [0, 1, 2, 3], 3), ("k", [0, 1, 3, 4], 5), ("q", [0, 1, 3, 4], 5),
                                        ("d", [0, 1, 3, 4], 4),
                                        ("f", [0, 1, 3, 4], 6)):
            told = self.check(WIDE, rows, name)
            self.assertEqual([number for number, _ in told], numbers)
            self.assertTrue(all(is_sum(unknowns, one) for _, row in told for one in row))
            self.assertTrue(rows_hold(without(WIDE, name)[0], saying, told))

    def test_the_first_two_free_ones(self):
        sketch = lines_as_sketch("free a", "free b", "free c", "free d", "middle m c d")
        _, rows = ask(sketch, ("row", "c", "m", "d"))
        for name, stays in (("a", False), ("b", False), ("c", False), ("d", False), ("m", False)):
            self.assertIsNone(self.check(sketch, rows, name))
        _, rows = ask(sketch, ("same", "c", "c"))
        for name, stays in (("a", False), ("b", False), ("c", False), ("d", True), ("m", True)):
            self.assertEqual(self.check(sketch, rows, name) is not None, stays)
        sketch = lines_as_sketch("free a", "free b", "circle k a b", "round p k")
        _, rows = ask(sketch, ("same", "a", "a"))
        self.assertIsNone(self.check(sketch, rows, "b"))
        self.assertIsNotNone(self.check(sketch, rows, "p"))

    def test_unknowns_of_what_goes(self):
        # Rows may be taken so often as a sum of unknowns that they don't need.
        saying = ("at", "p", "l")
        _, rows = ask(WIDE, saying)
        for at, name in ((3, "q"), (4, "d"), (5, "d"), (0, "c")):
            one = ((tuple(int(to == at) for to in range(6)), 2),)
            more = tuple((number, tuple(times(part, one) for part in row)) for number, row in rows)
            self.assertTrue(rows_hold(WIDE, saying, more))
            self.assertIsNone(self.check(WIDE, more, name))
            for other in "cqdf":
                if other != name:
                    told = self.check(WIDE, more, other)
                    if other == "c" and name == "q":
                        continue
                    self.assertEqual(told is None, other == "c" and at == 0)
                    if told is not None:
                        self.assertTrue(rows_hold(without(WIDE, other)[0], saying, told))
            mixed = (rows[0], more[1], *rows[2:])
            self.assertTrue(rows_hold(WIDE, saying, mixed))
            self.assertIsNone(self.check(WIDE, mixed, name))

    def test_what_holds_ahead_holds_behind(self):
        met = {}
        sketches = [(random.Random(1), lines_as_sketch(*rows), sayings) for rows, sayings in HOLDING]
        for seed in range(300):
            chance = random.Random(seed)
            sketch = any_sketch(chance, chance.randint(3, 12))
            if any(sort_made(step) == "point" for step in sketch):
                sketches.append((chance, sketch, list(sayings_of(sketch, chance))))
        for chance, sketch, sayings in sketches:
            for saying in sayings:
                try:
                    if not in_bounds(sketch, saying) or ask(sketch, saying)[0] == "fails":
                        continue
                except errors.PointError:
                    continue
                _, rows = ask(sketch, saying)
                for name in {step[1] for step in sketch}:
                    told = self.check(sketch, rows, name)
                    left = without(sketch, name)[0]
                    if told is not None:
                        self.assertTrue(rows_hold(left, saying, told))
                        self.assertEqual(tuple(number for number, _ in told), needed_anew(left, saying[1:]))
                    met[told is None] = met.get(told is None, 0) + 1
        self.assertGreater(min(met[True], met[False]), 100, met)


class Papers(Changed):
    def test_known(self):
        sketch, paper = lines_as_sketch("free z",
                                        *"free a, free b, free y, circle k a b, round p k, round q k, line l y z".split(", ")), paper_in(
            ("at p k: made 5", "alike a p a b: round 4 0"))
        saying = ("alike", "a", "p", "a", "b")
        self.assertTrue(paper_holds(sketch, saying, paper))
        for name, wanted in (("z", ("at p k: made 4", "alike a p a b: round 3 0")),
                             ("y", ("at p k: made 4", "alike a p a b: round 3 0")),
                             ("l", ("at p k: made 5", "alike a p a b: round 4 0")),
                             ("q", ("at p k: made 5", "alike a p a b: round 4 0")),
                             ("a", None), ("b", None), ("k", None), ("p", None)):
            told = self.ask(paper_without, sketch=sketch, paper=paper, name=name)
            self.assertEqual(told, None if wanted is None else paper_in(wanted))
            if told is not None:
                self.assertTrue(paper_holds(without(sketch, name)[0], saying, told))

    def test_a_name_of_a_saying_alone(self):
        # The row bears no step that goes, but a name that does; and a step that goes, but no name.
        sketch = lines_as_sketch("free a", "free b", "free c", "line l a b", "mirror w c l", "line m b a", "foot f c m")
        paper = paper_in(("unlike a b: made 3",))
        self.assertEqual(self.ask(paper_without, sketch=sketch, paper=paper, name="c"), paper_in(("unlike a b: made 2",)))
        self.assertIsNone(self.ask(paper_without, sketch=sketch, paper=paper, name="l"))
        self.assertEqual(self.ask(paper_without, sketch=sketch, paper=paper, name="m"), paper)
        paper = paper_in(("at a l: made 3", "alike a c a w: mirror 4 0", "alike a w a c: turned 1"))
        self.assertEqual(self.ask(paper_without, sketch=sketch, paper=paper, name="m"), paper)
        for name in "abclw":
            self.assertIsNone(self.ask(paper_without, sketch=sketch, paper=paper, name=name))

    def test_what_holds_ahead_holds_behind(self):
        met = {True: 0, False: 0}
        papers = [(as_sketch(rows), paper_in(texts)) for rows, *texts in PAPERS]
        for chance, sketch in chance_sketches(700, 760):
            for saying in sayings_of(sketch, chance) if any(sort_made(step) == "point" for step in sketch) else ():
                paper = by_rules(sketch, saying)
                if paper is not None:
                    papers.append((sketch, paper))
        for sketch, paper in papers:
            saying = paper[-1][0]
            for step in sketch:
                told = self.ask(paper_without, sketch=sketch, paper=paper, name=step[1])
                self.assertEqual(told, paper_without_anew(sketch, paper, step[1]))
                met[told is None] += 1
                if told is not None:
                    self.assertTrue(paper_holds(without(sketch, step[1])[0], saying, told))
            names = [step[1] for step in sketch]
            for calls in ((), ((names[0], "newname"),), ((names[0], names[1]), (names[1], names[0])),
                          tuple(zip(names, names[1:] + names[:1]))):
                told = self.ask(paper_renamed, paper=paper, calls=calls)
                self.assertEqual(told, tuple((renamed_anew(said, dict(calls)), rule, places) for said, rule, places in paper))
                self.assertTrue(paper_holds(renamed(sketch, calls), told[-1][0], told))
        self.assertGreater(min(met.values()), 100, met)

    def test_words_of_sayings_are_no_names(self):
        sketch = lines_as_sketch("free at", "free made", "line along at made", "line row made at")
        paper = paper_in(("at at along: made 2",))
        calls = (("at", "x"), ("along", "at"), ("row", "along"))
        self.assertEqual(self.ask(paper_renamed, paper=paper, calls=calls), paper_in(("at x at: made 2",)))
        self.assertTrue(paper_holds(renamed(sketch, calls), ("at", "x", "at"), paper_renamed(paper, calls)))
        self.assertEqual(self.ask(paper_without, sketch=sketch, paper=paper, name="row"), paper)
