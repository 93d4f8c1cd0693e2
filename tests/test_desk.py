import copy
import random
import time
import unittest

from pointhouse import errors
from pointhouse.desk import Desk
from pointhouse.drawing import numbers_for
from pointhouse.exacts import Exact, read_exact
from pointhouse.houses import House
from pointhouse.sayings import is_so_by
from pointhouse.sketchtexts import read_sketch, show_sketch
from tests.helper import OWN, any_hand, chance_sketches, hand_of, sayings_of, sort_made

ROWS = ("free o 0 0", "free p 5 0", "free a 0 3", "free b 1 3", "line l a b", "circle k o p", "cross x l k 0",
        "cross y l k 1", "on q l -1/2",
        "foot f o l")
OTHER_KINDS = (None, True, False, 0, 7, -1, (), ("text",), ["text"], {}, {"text": "text"}, Exact(1), ("where", "o"), [], ([],))


class Said(unittest.TestCase):
    def desk(self, *rows):
        desk = Desk()
        for row in rows:
            self.assertEqual(self.say(desk, row), "ok", row)
        return desk

    def say(self, desk, row):
        told = desk.say(row)
        self.assertIs(type(told), str)
        return told

    def refused(self, desk, row, kind, **fields):
        ahead = self.seen(desk)
        given = copy.deepcopy(row)
        with self.assertRaises((errors.PointError, errors.Missing)) as caught:
            desk.say(row)
        self.assertIs(type(caught.exception), kind, row)
        for name, field in fields.items():
            self.assertEqual(getattr(caught.exception, name), field)
        self.assertEqual(self.seen(desk), ahead)
        self.assertEqual(row, given)

    def seen(self, desk):
        """The text, and where all things are."""
        text = desk.say("text")
        names = [line.split(" ")[1] for line in text.split("/")] if text else []
        return text, [desk.say(f"where {name}") for name in names]


class Rows(Said):
    def test_steps(self):
        desk = self.desk(*ROWS, "round r k 1/3", "middle h a b", "mirror g o l", "turn t a b 3", "along n o l", "upright u o l",
                         "meet w u l", "line j o p", "other z j k p", "circle i f o", "on s u 0")
        self.assertEqual(desk.say("text"),
                         "free o/free p/free a/free b/line l a b/circle k o p/cross x l k 0/cross y l k 1/on q l/foot f o l/round r k/"
                         "middle h a b/mirror g o l/turn t a b 3/along n o l/upright u o l/meet w u l/line j o p/other z j k p/circle i f o/on s u")
        for name, told in (("o", "0 0"), ("q", "-1/2 3"), ("r", "4 3"), ("h", "1/2 3"), ("g", "0 6"), ("t", "1 4"),
                           ("n", "0 1 0"), ("u", "1 0 0"),
                           ("w", "0 3"), ("j", "0 1 0"), ("z", "-5 0"), ("i", "0 3 9"), ("s", "0 0"), ("x", "-4 3"),
                           ("l", "0 1 3"), ("k", "0 0 25")):
            self.assertEqual(desk.say(f"where {name}"), told)

    def test_text(self):
        desk = Desk()
        self.assertEqual(desk.say("text"), "")
        desk.say("free a 1/2 -3")
        self.assertEqual(desk.say("text"), "free a")
        desk.say("free b 0 0")
        self.assertEqual(desk.say("text"), "free a/free b")
        desk.say("turn t a b 2")
        self.assertEqual(desk.say("text"), "free a/free b/turn t a b 2")
        self.assertEqual(desk.say("where t"), "-1/2 3")

    def test_numbers(self):
        desk = self.desk("free a 999999/999998 -999999", "free b -1/3 0", "line l a b", "on p l -7/2", "circle k a b",
                         "round q k 0")
        self.assertEqual(desk.say("where a"), "999999/999998 -999999")
        self.assertEqual(desk.say("where q"), "-1/3 0")

    def test_out(self):
        desk = self.desk(*ROWS)
        self.assertEqual(desk.say("out f"), "f")
        self.assertEqual(desk.say("out a"), "a l x y q")
        self.assertEqual(desk.say("text"), "free o/free p/free b/circle k o p")
        self.assertEqual(desk.say("out o"), "o k")
        self.assertEqual(desk.say("move 1 2 3 4"), "none")
        self.assertEqual(desk.say("where b"), "3 4")

    def test_move_and_back(self):
        desk = self.desk(*ROWS)
        self.assertEqual(desk.say("where x"), "-4 3")
        self.assertEqual(desk.say("move 0 0 5 0 0 3 1 3 2"), "none")
        self.assertEqual(desk.say("move 0 0 5 0 -3 0 -3 1 2"), "x")
        self.assertEqual(desk.say("where x"), "-3 4")
        self.assertEqual(desk.say("where q"), "-3 2")
        self.assertEqual(desk.say("move 0 0 5 0 0 9 1 9 2"), "none")
        self.assertEqual(desk.say("where x"), "none")
        self.assertEqual(desk.say("move 0 0 5 0 0 3 1 3 2"), "x y")
        for told in ("none", "-3 4", "-4 3", "-4 3"):
            self.assertEqual(desk.say("back"), "ok")
            self.assertEqual(desk.say("where x"), told)
        self.refused(desk, "back", errors.NoBack)
        # Behind a step, out there is nothing to go back to.
        desk.say("move 0 0 5 0 0 3 1 3 2")
        desk.say("middle h a b")
        self.refused(desk, "back", errors.NoBack)
        desk.say("move 0 0 5 0 0 3 1 3 2")
        desk.say("out h")
        self.refused(desk, "back", errors.NoBack)

    def test_move_of_no_numbers(self):
        desk = Desk()
        self.assertEqual(desk.say("move"), "none")
        self.refused(desk, "move ", errors.NoRow)
        self.refused(desk, "move 1", errors.NoRow)
        self.assertEqual(desk.say("back"), "ok")
        self.refused(desk, "back", errors.NoBack)

    def test_where(self):
        desk = self.desk("free o 0 0", "free p 1 0", "free a 0 1/2", "free b 1 1/2", "line l a b", "circle k o p",
                         "cross x l k 0", "line m x o", "free c 7 7",
                         "middle h x c", "along n c l", "meet w l n", "foot e w m")
        self.assertEqual(desk.say("where x"), "0-r3/4 1/2")
        self.assertEqual(desk.say("where m"), "1 0+r3 0")
        self.assertEqual(desk.say("where h"), "7/2-r3/16 15/4")
        for name in "we":
            self.assertEqual(desk.say(f"where {name}"), "none")
        self.refused(desk, "where zz", errors.Missing, name="zz")
        self.refused(Desk(), "where a", errors.Missing, name="a")

    def test_holds(self):
        desk = self.desk(*ROWS, "free c 0 3", "line m a c", "foot e o m")
        for row, told in (("holds at x k", "yes"), ("holds at a l", "yes"), ("holds at o l", "no"), ("holds same a c", "yes"),
                          ("holds same a b", "no"),
                          ("holds row a b q", "yes"), ("holds along a b o p", "yes"), ("holds upright a b o f", "yes"),
                          ("holds alike o x o p", "yes"),
                          ("holds angle o p a a p o", "no"), ("holds ring x y p p", "yes"), ("holds at a m", "none"),
                          ("holds same e a", "none"),
                          ("holds row e a b", "none"), ("holds same e e", "none")):
            self.assertEqual(desk.say(row), told, row)
        # As the drawing stands: not as its text alone, nor in general.
        desk.say("move 0 0 5 0 0 3 1 3 2 1 1")
        self.assertEqual(desk.say("holds same a c"), "no")
        self.refused(desk, "holds same a zz", errors.NoFit, thing=("same", "a", "zz"))
        self.refused(desk, "holds same a l", errors.NoFit, thing=("same", "a", "l"))
        self.refused(desk, "holds at a b", errors.NoFit, thing=("at", "a", "b"))
        self.refused(desk, "holds at l k", errors.NoFit, thing=("at", "l", "k"))
        # NoFit also where one of its things isn't there by this hand.
        desk.say("move 0 0 5 0 0 3 1 3 2 0 3")
        self.refused(desk, "holds same e zz", errors.NoFit, thing=("same", "e", "zz"))

    def test_holds_by_two_roots(self):
        desk = self.desk("free o 0 0", "free p 1 0", "free a 0 1/2", "free b 1 1/2", "free c 0 1/3", "free d 1 1/3",
                         "line l a b", "line m c d", "circle k o p",
                         "cross x l k 0", "cross y m k 1", "free e 2 2", "along n e l", "meet w n l")
        self.refused(desk, "holds same x y", errors.TwoRoots, one=(3, 4), other=(8, 9))
        self.refused(desk, "holds row a y x", errors.TwoRoots, one=(8, 9), other=(3, 4))
        self.assertEqual(desk.say("holds at x k"), "yes")
        self.assertEqual(desk.say("holds ring x y w a"), "none")

    def test_claim(self):
        desk = self.desk("free a 0 0", "free b 1 0", "free c 2 2", "middle m a b", "line l a b", "on p l 4", "circle k c a",
                         "cross x l k 0", "middle n b a",
                         "line j m n")
        for row, told in (("claim row a m b", "holds"), ("claim at p l", "holds"), ("claim same p a", "fails 0 0 1 0 0 0 1"),
                          ("claim at c l", "fails 0 0 1 0 0 1 0"), ("claim same a b", "fails 0 0 1 0 0 0 0"),
                          ("claim at a k", "holds"),
                          ("claim row a m b", "holds"), ("claim same p a", "fails 0 0 1 0 0 0 1")):
            self.assertEqual(desk.say(row), told, row)
        self.refused(desk, "claim same a zz", errors.NoFit, thing=("same", "a", "zz"))
        self.refused(desk, "claim at a m", errors.NoFit, thing=("at", "a", "m"))
        self.refused(desk, "claim same x a", errors.NotPlain, number=7)
        self.refused(desk, "claim at a j", errors.NeverDone, number=9)
        # Behind a further step the told hand has its numbers, too.
        desk.say("free d 1 1")
        self.assertEqual(desk.say("claim same p a"), "fails 0 0 1 0 0 0 1 0 0")


class Refusals(Said):
    def test_no_rows(self):
        desk = self.desk(*ROWS)
        for row in (*OTHER_KINDS, "", " ", "  ", "a", "ok", "none", "free", "free c", "free c 1", "free c 1 2 3",
                    "free c 1 2 ", " free c 1 2", "free  c 1 2",
                    "free c  1 2", "free c 1  2", "free c 1 2\n", "free c 1 2\nfree d 1 2", "free c\n1 2", "free\nc 1 2",
                    "free c 01 2", "free c 1/1 2",
                    "free c 2/4 1", "free c +1 2", "free c -0 2", "free c 1. 2", "free c r2 1", "free c 0+r2 1",
                    "free c 1 1+r1/2", "free c a b",
                    "free C 1 2", "free abcdefghi 1 2", "free c1 1 2", "fre c 1 2", "Free c 1 2", "on c l", "on c l 1 2",
                    "on c l l 1", "on c 1 l",
                    "round c k", "round c k 1/2 3", "middle c a b 1", "middle c a", "turn c a b", "turn c a b 4",
                    "turn c a b 0", "turn c a b 1 1",
                    "turn c a b 01", "turn c a b x", "cross c l k", "cross c l k 2", "cross c l k -1", "line c a",
                    "line c a b a", "line c a B",
                    "out", "out a b", "out A", "out ", "out  a", "out abcdefghi", "back ", "back a", "back 1", "Back",
                    " back", "back\n", "text ", "text a",
                    " text", "text\n", "where", "where a b", "where A", "where a ", "where  a", "where 1", "where a1",
                    "holds", "holds same a",
                    "holds same a b o", "holds same a B", "holds same a  b", "holds  same a b", "holds unlike a b",
                    "holds at a", "holds row a b",
                    "holds angle a b a b a", "holds ring a b a b a", "same a b", "at a l", "claim", "claim same a",
                    "claim same a b a", "claim unlike a b",
                    "claim same a 1", "claim ", "step free c 1 2", "call a c", "drop a", "make a", "all", "move",
                    "move 1 2 3 4 5 6 7 8", "move 1 2 3 4 5 6 7 8 9 1",
                    "move 1 2 3 4 5 6 7 8 x", "move 1 2 3 4 5 6 7 8 0+r2", "move 1 2 3 4 5 6 7 8 02",
                    "move 1 2 3 4 5 6 7 8  9", "move 1 2 3 4 5 6 7 8 9 ",
                    "move 1 2 3 4 5 6 7 8 9\n", "x" * 4000, "free " * 800, " " * 4000, "\n" * 4000,
                    "free c " + "1" * 61 + " 2", "free,c,1,2"):
            self.refused(desk, row, errors.NoRow)
            self.assertNotIsInstance(errors.NoRow("x"), (errors.NoText, errors.NoDeed, KeyError))
        deep = ()
        for _ in range(29):
            deep = (deep,)
        self.refused(desk, deep, errors.NoRow)
        self.refused(desk, ["free c 1 2"] * 50000, errors.NoRow)

    def test_each_row_with_blanks_put_otherwise(self):
        desk = self.desk(*ROWS)
        for row in ("free c 1 2", "middle c a b", "on c l 1", "out a", "move 1 2 3 4 5 6 7 8 9", "back", "where a",
                    "holds same a b", "claim same a b", "text"):
            words = row.split(" ")
            for other in (" " + row, row + " ", row + "\n", "\n" + row, row + "  ", row.replace(" ", "  "),
                          row.replace(" ", "\n"), row.replace(" ", "\t"),
                          row.upper(), row + "\r"):
                if other != row:
                    self.refused(desk, other, errors.NoRow)
            for at in range(len(words)):
                self.refused(desk, " ".join(words[:at] + [""] + words[at:]), errors.NoRow)

    def test_as_the_house_refuses(self):
        desk = self.desk(*ROWS)
        self.refused(desk, "free x 1 2", errors.Taken, name="x")
        self.refused(desk, "line x a a", errors.Taken, name="x")
        self.refused(desk, "line m a a", errors.NoFit, thing=("line", "m", "a", "a"))
        self.refused(desk, "line m m a", errors.NoFit, thing=("line", "m", "m", "a"))
        self.refused(desk, "line m a l", errors.NoFit, thing=("line", "m", "a", "l"))
        self.refused(desk, "on m k 3", errors.NoFit, thing=("on", "m", "k"))
        self.refused(desk, "turn m a zz 2", errors.NoFit, thing=("turn", "m", "a", "zz", 2))
        self.refused(desk, "other m l k a", errors.NoFit, thing=("other", "m", "l", "k", "a"))
        self.refused(desk, "out zz", errors.Missing, name="zz")
        self.refused(desk, "back", errors.NoBack)
        # What is no row goes first.
        self.refused(desk, "free x 1", errors.NoRow)
        self.refused(desk, "on m k", errors.NoRow)
        self.refused(desk, "on m k 01", errors.NoRow)

    def test_by_name(self):
        desk = Desk()
        self.assertEqual(desk.say(row="free a 1 2"), "ok")
        self.assertEqual(desk.say(row="where a"), "1 2")

    def test_desks_share_nothing(self):
        one, other = Desk(), Desk()
        one.say("free a 1 2")
        self.assertEqual(other.say("text"), "")
        other.say("free a 3 4")
        one.say("move 5 6")
        self.assertEqual((one.say("where a"), other.say("where a")), ("5 6", "3 4"))
        self.assertEqual(Desk().say("text"), "")


class AsAHouse(Said):
    def test_by_chance(self):
        met = {}
        for chance, sketch in chance_sketches(2000, 2060):
            desk, house = Desk(), House()
            house.do(("sketch", "a", (), ()))
            for step in sketch:
                numbers = any_hand(chance, numbers_for((step,)))
                house.do(("step", "a", step, numbers))
                self.assertEqual(desk.say(" ".join([show_sketch((step,)), *map(str, numbers)])), "ok")
            for _ in range(4):
                hand = any_hand(chance, numbers_for(sketch))
                turned = house.do(("move", "a", hand))
                self.assertEqual(desk.say(" ".join(["move", *map(str, hand)])), " ".join(turned) or "none")
                self.compare(desk, house, sketch, chance, met)
            if sketch:
                name = chance.choice(sketch)[1]
                self.assertEqual(desk.say(f"out {name}"), " ".join(house.do(("out", "a", name))))
                self.compare(desk, house, house.sketch("a"), chance, met)
        self.assertGreater(min(met[told] for told in ("yes", "no", "none")), 10, met)

    def compare(self, desk, house, sketch, chance, met):
        self.assertEqual(read_sketch(desk.say("text").replace("/", "\n")), sketch)
        for step, thing in zip(sketch, house.things("a")):
            numbers = [] if thing is None else [*thing[0], thing[1]] if isinstance(thing[0], tuple) else thing
            told = desk.say(f"where {step[1]}")
            self.assertEqual(told, " ".join(map(str, numbers)) or "none")
            if told != "none":
                self.assertEqual([read_exact(word) for word in told.split(" ")], list(numbers))
        for saying in sayings_of(sketch, chance) if any(sort_made(step) == "point" for step in sketch) else ():
            try:
                so = {True: "yes", False: "no", None: "none"}[is_so_by(sketch, house.things("a"), saying)]
                self.assertEqual(desk.say(" ".join(["holds", *saying])), so)
                met[so] = met.get(so, 0) + 1
            except errors.TwoRoots as error:
                self.refused(desk, " ".join(["holds", *saying]), errors.TwoRoots, one=error.one, other=error.other)

    def test_eighty_rows(self):
        started = time.process_time()
        desk = self.desk("free a 999999/999998 -999998/7", "free b 1/999999 0", "free c 3 4", "line l a b", "line m b c",
                         "circle k a c", "cross x m k 0",
                         "on p l 777777/999979", "middle h a p", "mirror g c l", "foot f c l", "turn t c a 1", "meet q l m",
                         "cross y l k 1")
        chance = random.Random(1)
        for _ in range(60):
            numbers = [f"{chance.randint(-999999, 999999)}" for _ in range(sum(OWN.get(row.split(' ')[0],
                                                                                       0) for row in desk.say("text").split("/")))]
            desk.say(" ".join(["move", *numbers]))
            self.assertNotEqual(desk.say("where q"), "none")
        self.assertEqual(desk.say("claim upright c f a b"), "holds")
        self.assertLess(time.process_time() - started, 20)
        self.assertEqual(hand_of(*numbers), tuple(read_exact(number) for number in numbers))
