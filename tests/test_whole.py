"""What is promised over the whole program."""

import copy
import importlib
import random
import time
import unittest

from pointhouse import errors
from pointhouse.boards import Board
from pointhouse.changes import renamed, without
from pointhouse.conditions import conditions
from pointhouse.desk import Desk
from pointhouse.drawing import drawn, is_hand, numbers_for
from pointhouse.exacts import Exact, read_exact
from pointhouse.findings import finding_holds
from pointhouse.general import ask
from pointhouse.generalchecks import rows_hold
from pointhouse.houses import House
from pointhouse.lessons import is_lesson, judged
from pointhouse.plane import crossings, foot_of, line_through, mirror_of
from pointhouse.rulechecks import paper_holds
from pointhouse.ruling import by_rules
from pointhouse.sayings import is_saying, is_so
from pointhouse.sketchtexts import read_sketch, show_sketch
from pointhouse.steps import is_sketch, needed
from pointhouse.ways import way_of
from tests.general_anew import own_places
from tests.helper import (
    SKETCHES, any_hand, any_sketch, chance_sketches, hand_of, lines_as_sketch, place, sayings_of, sort_made,
)
from tests.test_general import in_bounds
from tests.test_interface import FUNCTIONS, METHODS

SKETCH = lines_as_sketch("free a", "free b", "free c", "line l a b", "on p l", "middle m a b", "circle k a b", "turn t b a 1")
HAND = hand_of(0, 0, 1, 0, 2, 3, "1/2")
SAYING = ("row", "a", "m", "b")
ROWS = ask(SKETCH, SAYING)[1]
PAPER = by_rules(SKETCH, SAYING)
LINE, OTHER, CIRCLE = hand_of(1, 2, 3), hand_of(1, 0, 4), (place(0, 0), Exact(25))
ONE, TWO = (((0, 1), 2), ((1, 0), -3)), (((0, 0), 5),)
# All that the interface lists, but the refusals: by each name a thing that may be handed in.
HANDED = {
    "exacts": {"Exact": dict(top=1, bottom=2, sign=-1, over=5, under=3), "read_exact": dict(text="1/2+r5")},
    "plane": {
        "line_through": dict(p=place(0, 1), q=place(3, 4)), "line_along": dict(p=place(0, 1), line=LINE),
        "line_upright": dict(p=place(0, 1), line=LINE),
        "lines_meet": dict(one=LINE, other=OTHER), "middle_of": dict(p=place(0, 1), q=place(3, 4)),
        "foot_of": dict(p=place(0, 1), line=LINE),
        "mirror_of": dict(p=place(0, 1), line=LINE), "turned": dict(p=place(0, 1), about=place(3, 4), many=3),
        "crossings": dict(line=LINE, circle=CIRCLE),
    },
    "steps": {"is_sketch": dict(thing=SKETCH), "hanging": dict(sketch=SKETCH, name="a"),
              "needed": dict(sketch=SKETCH, names=("p",))},
    "sketchtexts": {"show_sketch": dict(sketch=SKETCH), "read_sketch": dict(text=show_sketch(SKETCH))},
    "weights": {"weight_of": dict(sketch=SKETCH, name="p"), "weight_in": dict(sketch=SKETCH, saying=SAYING)},
    "drawing": {"numbers_for": dict(sketch=SKETCH), "is_hand": dict(sketch=SKETCH, thing=HAND),
                "drawn": dict(sketch=SKETCH, hand=HAND)},
    "boards": {"Board": dict(sketch=SKETCH, hand=HAND, way="near", choices=())},
    "sums": {
        "is_sum": dict(many=2, thing=ONE), "added": dict(one=ONE, other=TWO), "lessened": dict(one=ONE, other=TWO),
        "times": dict(one=ONE, other=TWO),
        "worth_at": dict(one=ONE, numbers=(3, 4)),
    },
    "sayings": {
        "is_saying": dict(sketch=SKETCH, thing=SAYING), "is_so": dict(sketch=SKETCH, hand=HAND, saying=SAYING),
        "is_so_by": dict(sketch=SKETCH, things=drawn(SKETCH, HAND), saying=SAYING),
    },
    "general": {"rows_of": dict(sketch=SKETCH, names=("p", "m")), "ask": dict(sketch=SKETCH, saying=SAYING)},
    "generalchecks": {"rows_hold": dict(sketch=SKETCH, saying=SAYING, thing=ROWS)},
    "conditions": {"conditions": dict(sketch=SKETCH)},
    "rulechecks": {"paper_holds": dict(sketch=SKETCH, saying=SAYING, thing=PAPER)},
    "ruling": {"by_rules": dict(sketch=SKETCH, saying=SAYING, most=4)},
    "ways": {
        "way_of": dict(sketch=SKETCH, hand=HAND, going="p", name="p"),
        "going_at": dict(sketch=SKETCH, hand=HAND, going="p", name="p", point=place(4, 0)),
    },
    "lessons": {"is_lesson": dict(thing=(SKETCH, (SAYING,))), "judged": dict(lesson=(SKETCH, (SAYING,)),
                                                                             steps=(("free", "z"),))},
    "changes": {
        "without": dict(sketch=SKETCH, name="c"), "renamed": dict(sketch=SKETCH, calls=(("a", "z"),)),
        "hand_without": dict(sketch=SKETCH, hand=HAND, name="c"),
        "rows_without": dict(sketch=SKETCH, rows=ROWS, name="c"), "paper_without": dict(sketch=SKETCH, paper=PAPER, name="c"),
        "paper_renamed": dict(paper=PAPER, calls=(("a", "z"),)),
    },
    "houses": {"House": {}}, "desk": {"Desk": {}},
    "findings": {"finding_holds": dict(thing=("holds", show_sketch(SKETCH), SAYING, ROWS))},
}
BY_NAMES_ALONE = ("sign", "over", "under", "way", "choices", "most")
HANDED_TO_METHODS = {
    ("exacts", "Exact"): (lambda: Exact(1, 2), dict(plus=dict(other=Exact(3)), minus=dict(other=Exact(3)),
                                                    times=dict(other=Exact(3)), by=dict(other=Exact(3)),
                                                     sign_of={}, is_less=dict(other=Exact(3)), decimals=dict(places=3))),
    ("boards", "Board"): (lambda: Board(SKETCH, HAND), dict(hand={}, things={}, choices={}, move=dict(hand=HAND[::-1]),
                                                            back={}, copy={})),
    ("houses", "House"): (lambda: filled_house(), dict(
        do=dict(deed=("claim", "s", SAYING)), titles=dict(by=lambda title, steps: -steps), sketch=dict(title="s"),
        hand=dict(title="s"), things=dict(title="s"),
        claims=dict(title="s"), lesson=dict(title="t"), has=dict(title="s"), log={})),
    ("desk", "Desk"): (lambda: Desk(), dict(say=dict(row="free a 1 2"))),
}
SPOILT = (
    lines_as_sketch("free a", "free a"), lines_as_sketch("line l a b"), lines_as_sketch("free a", "free b", "line l a a"),
    (("free", "A"),), (("free",),),
    (("free", "a", "b"),), (["free", "a"],), ("free a",), (None,), lines_as_sketch("free a", "free b", "turn t a b 4"),
    (("free", "abcdefghi"),),
    lines_as_sketch("free a", "free b", "line l a b", "circle k a b", "cross x k l 0"), ((),),
    lines_as_sketch("free a", "on p a"),
    lines_as_sketch("free a", "free b", "line l a b", "circle k a b", "other o l k a"),
)


def filled_house():
    house = House()
    house.do(("sketch", "s", SKETCH, HAND))
    house.do(("lesson", "t", SKETCH, (SAYING,)))
    return house


class Arguments(unittest.TestCase):
    def test_all_that_the_interface_lists(self):
        for file, names in FUNCTIONS.items():
            if file != "errors":
                self.assertEqual(set(HANDED[file]), set(names))
        for kind, methods in METHODS.items():
            plain = {name for name in methods if not name.startswith("__")}
            self.assertEqual(set(HANDED_TO_METHODS[kind][1]), plain)

    def told(self, function, things):
        """What is told by places, by names, and by names in other orders."""
        ahead = copy.deepcopy(things)
        places = [thing for name, thing in things.items() if name not in BY_NAMES_ALONE]
        alone = {name: thing for name, thing in things.items() if name in BY_NAMES_ALONE}
        found = [function()(*places, **alone), function()(**things), function()(**dict(reversed(things.items()))),
                 function()(*places[:1], **dict(list(things.items())[1:]))]
        order = list(things.items())
        random.Random(len(order)).shuffle(order)
        found.append(function()(**dict(order)))
        for other in found[1:]:
            if not isinstance(found[0], Desk):
                self.assertEqual(found[0], other)
        self.assertEqual(things, ahead)
        return found[0]

    def test_functions_and_classes(self):
        for file, functions in HANDED.items():
            home = importlib.import_module(f"pointhouse.{file}")
            for name, things in functions.items():
                with self.subTest(name=name):
                    self.told(lambda: getattr(home, name), things)

    def test_methods(self):
        for (_, kind), (made, methods) in HANDED_TO_METHODS.items():
            for name, things in methods.items():
                with self.subTest(kind=kind, name=name):
                    self.told(lambda: self.method(made, name), {name: thing for name, thing in things.items()})

    def method(self, made, name):
        thing = made()
        if name == "back":
            thing.move(HAND[::-1])
        return getattr(thing, name)

    def test_what_begins_with_is_and_ends_with_holds(self):
        deep = ()
        for _ in range(29):
            deep = [deep]
        for thing in (None, True, 0, "", (), [], {}, deep, Exact(1), "a" * 4000, 10 ** 59, {"a": [deep[0]]},
                      ((1, "a"), [None])):
            for told in (is_sketch(thing), is_hand(SKETCH, thing), is_saying(SKETCH, thing), rows_hold(SKETCH, SAYING, thing),
                         paper_holds(SKETCH, SAYING, thing),
                         is_lesson(thing), finding_holds(thing)):
                self.assertIs(told, thing == () and told)
                self.assertIs(type(told), bool)


class Spoilt(unittest.TestCase):
    def test_a_spoilt_sketch(self):
        saying = ("same", "a", "b")
        for sketch in SPOILT:
            self.assertIs(is_sketch(sketch), False)
            self.assertIs(is_lesson((sketch, (saying,))), False)
            house = House()
            for deed in (("sketch", "s", sketch, ()), ("lesson", "s", sketch, (saying,)),
                         ("all", (("sketch", "s", sketch, ()),))):
                with self.assertRaises(errors.NoDeed) as caught:
                    house.do(deed)
                self.assertEqual(caught.exception.thing, deed)
            self.assertEqual(len(house), 0)
            if all(isinstance(step, tuple) and step and all(isinstance(part, (str, int)) for part in step) for step in sketch):
                self.spoilt_text(sketch, show_sketch(sketch), saying)

    def spoilt_text(self, sketch, text, saying):
        wrong = next(number for number in range(len(sketch)) if not is_sketch(sketch[:number + 1]))
        with self.assertRaises(errors.NoText) as caught:
            read_sketch(text)
        self.assertEqual(caught.exception.row, wrong)
        for sort, shown in (("holds", ()), ("rules", PAPER), ("fails", ()), ("fails", hand_of(0, 0, 1, 0))):
            self.assertIs(finding_holds((sort, text, saying, shown)), False)
        self.assertEqual(judged(((), (("same", "x", "x"),)), sketch), ("wrong", wrong))
        desk = Desk()
        for number, step in enumerate(sketch[:wrong + 1]):
            row = " ".join(map(str, step)) + " 0" * numbers_for((step,))
            if number < wrong:
                self.assertEqual(desk.say(row), "ok")
        with self.assertRaises((errors.NoRow, errors.NoFit, errors.Taken)):
            desk.say(row)

    def test_a_text_through_all(self):
        for sketch in (*SKETCHES, SKETCH, *[sketch for _, sketch in chance_sketches(100, 130)]):
            text = show_sketch(sketch)
            self.assertEqual(read_sketch(text), sketch)
            hand = any_hand(random.Random(4), numbers_for(sketch))
            house, desk = House(), Desk()
            house.do(("sketch", "a", read_sketch(text), hand))
            rest = list(hand)
            for step in sketch:
                numbers = [rest.pop(0) for _ in range(numbers_for((step,)))]
                desk.say(" ".join([show_sketch((step,)), *map(str, numbers)]))
            self.assertEqual(desk.say("text").replace("/", "\n"), text)
            self.assertEqual(show_sketch(house.sketch("a")), text)
            self.assertEqual(house.things("a"), drawn(sketch, hand))
            lesson = (read_sketch(text), (("same", "z", "z"),))
            self.assertIs(is_lesson(lesson), "z" not in [step[1] for step in sketch if sort_made(step) != "point"])


class Drawings(unittest.TestCase):
    def test_what_stays_is_drawn_alike(self):
        for chance, sketch in chance_sketches(300, 360):
            hand = any_hand(chance, numbers_for(sketch))
            house = House()
            house.do(("sketch", "s", sketch, hand))
            by_name = dict(zip([step[1] for step in sketch], drawn(sketch, hand)))
            for step in sketch:
                other = House()
                other.do(("sketch", "s", sketch, hand))
                gone = other.do(("out", "s", step[1]))
                self.assertEqual(gone, without(sketch, step[1])[1])
                left = [one[1] for one in other.sketch("s")]
                self.assertEqual(dict(zip(left, other.things("s"))), {name: by_name[name] for name in left})
                other = House()
                other.do(("sketch", "s", sketch, hand))
                other.do(("call", "s", step[1], "newname"))
                self.assertEqual(other.sketch("s"), renamed(sketch, ((step[1], "newname"),)))
                self.assertEqual(other.things("s"), house.things("s"))

    def test_moved_and_moved_back(self):
        for chance, sketch in chance_sketches(400, 430):
            for way in ("signs", "near"):
                board, house = Board(sketch, any_hand(chance, numbers_for(sketch)), way=way), House()
                house.do(("sketch", "s", sketch, board.hand()))
                seen = []
                for _ in range(6):
                    hand = any_hand(chance, numbers_for(sketch))
                    seen.append((board.copy(), board.things(), board.choices(), house.things("s")))
                    board.move(hand)
                    house.do(("move", "s", hand))
                for copied, things, choices, kept in reversed(seen):
                    board.back()
                    house.do(("back", "s"))
                    self.assertTrue(board == copied)
                    self.assertEqual((board.things(), board.choices(), house.things("s")), (things, choices, kept))
                    hand = any_hand(chance, numbers_for(sketch))
                    self.assertEqual(board.move(hand), copied.move(hand))
                    self.assertEqual(board.things(), copied.things())
                    board.back()

    def test_two_orders_of_the_same_steps(self):
        met = 0
        for seed in range(500, 560):
            chance = random.Random(seed)
            sketch = any_sketch(chance, chance.randint(4, 12))
            other, rest = [], list(sketch)
            while rest:
                ready = [step for step in rest if all(name in [one[1] for one in other] for name in [part for part in step[2:] if isinstance(part, str)])]
                # The free ones stay in their order, so that the same two stand where they stand.
                ready = [step for step in ready if step[0] != "free" or step == next(one for one in rest if one[0] == "free")]
                step = chance.choice(ready)
                other.append(step)
                rest.remove(step)
            other = tuple(other)
            self.assertTrue(is_sketch(other))
            hand = any_hand(chance, numbers_for(sketch))
            numbers = {step[1]: [hand[at] for at in places] for step, places in zip(sketch, own_places(sketch))}
            again = tuple(number for step in other for number in numbers[step[1]])
            things = dict(zip([step[1] for step in sketch], drawn(sketch, hand)))
            self.assertEqual(dict(zip([step[1] for step in other], drawn(other, again))), things)
            for saying in sayings_of(sketch, chance) if any(sort_made(step) == "point" for step in sketch) else ():
                if in_bounds(sketch, saying):
                    try:
                        told = ask(sketch, saying)[0]
                    except errors.PointError as error:
                        with self.assertRaises(type(error)):
                            ask(other, saying)
                        continue
                    self.assertEqual(ask(other, saying)[0], told)
                    met += 1
        self.assertGreater(met, 100)


class Promise(unittest.TestCase):
    def test_no_paper_and_a_breaking_hand(self):
        met = {}
        for seed in range(600, 720):
            chance = random.Random(seed)
            sketch = any_sketch(chance, chance.randint(3, 10))
            for saying in sayings_of(sketch, chance) if any(sort_made(step) == "point" for step in sketch) else ():
                if not in_bounds(sketch, saying):
                    continue
                try:
                    word, shown = ask(sketch, saying)
                except errors.PointError:
                    continue
                paper = by_rules(sketch, saying)
                met[word, paper is not None] = met.get((word, paper is not None), 0) + 1
                text = show_sketch(sketch)
                if word == "fails" and None not in drawn(sketch, shown):
                    self.assertIsNone(paper)
                if paper is not None:
                    self.assertTrue(paper_holds(sketch, saying, paper))
                    if None not in drawn(sketch, any_hand(random.Random(8), numbers_for(sketch))):
                        self.assertEqual(word, "holds")
                if finding_holds((word, text, saying, shown)):
                    self.assertFalse(finding_holds(("holds" if word == "fails" else "fails", text, saying, shown)))
        self.assertGreater(met["holds", True], 5)
        self.assertGreater(met["fails", False], 50)

    def test_a_lesson_is_let_by_just_where_its_wishes_hold(self):
        met = set()
        for seed in range(720, 780):
            chance = random.Random(seed)
            sketch = any_sketch(chance, chance.randint(3, 10))
            sayings = [saying for saying in sayings_of(sketch, chance) if in_bounds(sketch,
                                                                                    saying)] if any(sort_made(step) == "point" for step in sketch) else []
            for many in (1, 2):
                wishes = tuple(chance.sample(sayings, min(many, len(sayings))))
                if not wishes:
                    continue
                told = judged((sketch[:1], wishes), sketch[1:]) if is_lesson((sketch[:1], wishes)) else ("none",)
                met.add(told[0])
                if told[0] == "held":
                    self.assertTrue(all(rows_hold(sketch, wish, rows) for wish, rows in zip(wishes, told[1])))
                if told[0] == "fails":
                    self.assertIs(is_so(sketch, told[2], wishes[told[1]]), False)
        self.assertLessEqual({"held", "fails"}, met)


class Great(unittest.TestCase):
    def test_numbers_of_120_figures(self):
        started = time.process_time()
        top, bottom = 10 ** 119 + 7, 10 ** 119 + 9
        one, other = Exact(top, bottom, sign=1, over=bottom, under=top), Exact(-bottom, top, sign=-1, over=4 * bottom,
                                                                               under=9 * top)
        self.assertEqual(one.plus(other).minus(other), one)
        self.assertEqual(one.times(other).by(other), one)
        p, q = (one, other), (Exact(top), Exact(bottom, top))
        line = line_through(p, q)
        self.assertEqual(mirror_of(foot_of(p, line), line), foot_of(p, line))
        plain = (Exact(top, bottom), Exact(-bottom, top), Exact(1, top))
        self.assertIn(len(crossings((Exact(1), *plain[:2]), ((plain[0], plain[1]), Exact(top)))), (0, 2))
        self.assertEqual(read_exact(str(Exact(10 ** 59, 10 ** 59 + 1))), Exact(10 ** 59, 10 ** 59 + 1))
        self.assertLess(time.process_time() - started, 5)

    def test_eighty_moves_and_back(self):
        started = time.process_time()
        sketch = lines_as_sketch("free o", "free p", "free a", "free b", "line l a b", "circle k o p", "cross x l k 0", "cross y l k 1",
                                 "line m x o", "line n y o", "round q k", "line i q x", "foot f y i", "on g m")
        chance = random.Random(80)
        hands = [tuple(Exact(chance.randint(-999999, 999999), chance.randint(1, 999999)) for _ in range(10)) for _ in range(81)]
        for way in ("signs", "near"):
            board = Board(sketch, hands[0], way=way)
            seen = []
            for hand in hands[1:]:
                seen.append((board.hand(), board.choices(), board.things()))
                board.move(hand)
            self.assertEqual(len(board), 80)
            for told in reversed(seen):
                board.back()
                self.assertEqual((board.hand(), board.choices(), board.things()), told)
            self.assertTrue(board == Board(sketch, hands[0], way=way))
        self.assertLess(time.process_time() - started, 30)

    def test_fourteen_steps_and_six_figures(self):
        started = time.process_time()
        for seed in range(800, 830):
            chance = random.Random(seed)
            sketch = any_sketch(chance, 14, chance.choice(((), SKETCH)))
            hand = tuple(Exact(chance.randint(-999999, 999999), chance.randint(1, 999999)) for _ in range(numbers_for(sketch)))
            things = drawn(sketch, hand)
            board = Board(sketch, hand, way="near")
            for _ in range(5):
                board.move(hand[::-1])
                board.move(hand)
            self.assertEqual(len(things), 14)
            if any(step[0] == "cross" for step in sketch):
                continue
            if numbers_for(sketch) <= 8:
                self.assertIs(type(conditions(sketch)), tuple)
            if "p" in [step[1] for step in sketch]:
                for step in sketch:
                    if sort_made(step) == "point" and 4 in needed(sketch, (step[1],)):
                        try:
                            way_of(sketch, hand, "p", step[1])
                        except errors.NeverDone:
                            pass
        self.assertLess(time.process_time() - started, 60)
