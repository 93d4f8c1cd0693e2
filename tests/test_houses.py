import copy
import random
import time
import unittest

from pointhouse import errors
from pointhouse.boards import Board
from pointhouse.drawing import drawn, numbers_for
from pointhouse.exacts import Exact
from pointhouse.general import ask
from pointhouse.generalchecks import rows_hold
from pointhouse.houses import House
from pointhouse.lessons import judged
from tests.helper import SAYINGS, any_hand, any_sketch, exact, goes_on, hand_of, lines_as_sketch, root, sort_made
from tests.house_anew import HouseAnew, Refused

CROSSED = lines_as_sketch("free o", "free p", "free a", "free b", "line l a b", "circle k o p", "cross x l k 0",
                          "cross y l k 1")
# By these the line goes over the circle; x's choice turns by the second.
FIRST, SECOND, THIRD = hand_of(0, 0, 5, 0, 0, 3, 1, 3), hand_of(0, 0, 5, 0, -3, 0, -3, 1), hand_of(0, 0, 5, 0, 0, 9, 1, 9)
PLAIN = lines_as_sketch("free a", "free b", "free c", "line l a b", "on p l", "middle m a b")
PLAIN_HAND = hand_of(0, 0, 1, 0, 2, 3, "1/2")
WISHES = (("alike", "x", "a", "x", "b"), ("at", "x", "l"))
# Things of other kinds.
OTHER_KINDS = (None, True, 0, 3, "", "a", "step", (), [], {}, Exact(1), ("step",), ["drop", "a"], {"drop": "a"},
               (("drop", "a"),), (None,), (0, "a"),
               ([], "a"), ({}, "a"), (("drop",), "a"), ([["drop"]], "a", ()))


def refused(kind, *fields, cause=None):
    return (kind.__name__, *fields, *([cause] if cause else []))


def told_by(error):
    """What a refusal tells: its class, its field, and what it was raised from."""
    names = {"NoDeed": "thing", "NoFit": "thing", "Missing": "name", "Taken": "name", "Undone": "number", "NotPlain": "number",
             "NeverDone": "number"}
    name = type(error).__name__
    assert type(error) is getattr(errors, name)
    fields = [getattr(error, names[name])] if name in names else []
    return (name, *fields, *([told_by(error.__cause__)] if name == "Undone" else []))


class Housed(unittest.TestCase):
    def setUp(self):
        self.house, self.anew = House(), HouseAnew()

    def do(self, deed, wanted=None):
        """A deed is done in the House and in the one written anew: what is told, or told of a refusal."""
        ahead = copy.deepcopy(deed)
        before = self.seen(self.house)
        try:
            told, done = self.house.do(deed), True
        except (errors.PointError, errors.Missing) as error:
            told, done = told_by(error), False
        try:
            again, done_anew = self.anew.do(copy.deepcopy(deed)), True
        except Refused as error:
            again, done_anew = error.told(), False
        self.assertEqual((told, done), (again, done_anew), deed)
        self.assertEqual(deed, ahead)
        if not done:
            self.assertEqual(self.seen(self.house), before)
        if wanted is not None:
            self.assertEqual(told, wanted)
        self.look()
        return told

    def done(self, *deeds):
        for deed in deeds:
            told = self.do(deed)
            self.assertFalse(isinstance(told, tuple) and told[:1] and isinstance(told[0], str) and told[0][0].isupper(), told)

    def seen(self, house):
        """All that a House tells, but its log."""
        found = []
        for title in house.titles():
            try:
                found.append((title, house.sketch(title), house.hand(title), house.things(title), house.claims(title)))
            except errors.Missing:
                found.append((title, house.lesson(title)))
        return found

    def look(self):
        """The House is as the one written anew."""
        house, kept = self.house, self.anew.kept
        self.assertEqual(house.titles(), tuple(sorted(kept)))
        self.assertEqual(len(house), len(kept))
        self.assertEqual(house.log(), tuple(self.anew.log))
        for title, one in kept.items():
            self.assertIs(house.has(title), True)
            if one["sort"] == "lesson":
                self.assertEqual(house.lesson(title), one["lesson"])
            else:
                self.assertEqual(house.sketch(title), one["sketch"])
                self.assertEqual(house.hand(title), one["board"].hand)
                self.assertEqual(house.things(title), one["board"].things)
                self.assertEqual(house.claims(title), tuple(one["claims"]))


class Deeds(Housed):
    def test_sketch_lesson_and_drop(self):
        self.do(("sketch", "plain", PLAIN, PLAIN_HAND))
        self.assertIsNone(self.house.do(("sketch", "empty", (), ())))
        self.anew.do(("sketch", "empty", (), ()))
        self.assertIsNone(self.do(("lesson", "mid", PLAIN, WISHES)))
        self.assertEqual(self.house.titles(), ("empty", "mid", "plain"))
        self.assertEqual(self.house.sketch("plain"), PLAIN)
        self.assertEqual(self.house.hand("plain"), PLAIN_HAND)
        self.assertEqual(self.house.things("plain"), drawn(PLAIN, PLAIN_HAND))
        self.assertEqual(self.house.claims("plain"), ())
        self.assertEqual(self.house.lesson("mid"), (PLAIN, WISHES))
        self.assertEqual((self.house.sketch("empty"), self.house.hand("empty"), self.house.things("empty")), ((), (), ()))
        self.assertIsNone(self.do(("drop", "plain")))
        self.assertIsNone(self.do(("drop", "mid")))
        self.assertEqual(self.house.titles(), ("empty",))
        self.do(("drop", "mid"), refused(errors.Missing, "mid"))
        self.do(("lesson", "plain", PLAIN, WISHES))
        self.do(("sketch", "mid", PLAIN, PLAIN_HAND))

    def test_move_and_back(self):
        self.do(("sketch", "s", CROSSED, FIRST))
        self.do(("back", "s"), refused(errors.NoBack))
        # x stood at (-4, 3) and y at (4, 3): (-3, 4) is nearer to both of them than (-3, -4).
        self.assertEqual(self.do(("move", "s", SECOND)), ("x",))
        self.assertEqual(self.house.things("s")[6:], (hand_of(-3, 4),) * 2)
        self.assertEqual(self.do(("move", "s", THIRD)), ())
        # They stood there last, though the last line meets the circle nowhere.
        self.assertEqual(self.do(("move", "s", FIRST)), ("x", "y"))
        self.assertEqual(self.house.things("s")[6:], (hand_of(-4, 3),) * 2)
        for hand in (THIRD, SECOND, FIRST):
            self.assertIsNone(self.do(("back", "s")))
            self.assertEqual(self.house.hand("s"), hand)
        self.assertEqual(self.house.things("s"), drawn(CROSSED, FIRST))
        self.do(("back", "s"), refused(errors.NoBack))

    def test_step(self):
        self.do(("sketch", "s", CROSSED, FIRST))
        self.do(("move", "s", SECOND))
        ahead = self.house.things("s")
        self.assertIsNone(self.do(("step", "s", ("free", "c"), hand_of(7, "-1/3"))))
        self.assertEqual(self.house.sketch("s"), CROSSED + (("free", "c"),))
        self.assertEqual(self.house.hand("s"), SECOND + hand_of(7, "-1/3"))
        # The choices stay as they were turned, and there is no move to go back.
        self.assertEqual(self.house.things("s"), (*ahead, hand_of(7, "-1/3")))
        self.do(("back", "s"), refused(errors.NoBack))
        self.done(("step", "s", ("line", "m", "c", "o"), ()), ("step", "s", ("on", "q", "m"), hand_of("5/3")),
                  ("step", "s", ("round", "r", "k"), hand_of(0)), ("step", "s", ("middle", "h", "x", "y"), ()))
        # A new cross takes the meet of its own number, though the others are turned.
        self.done(("step", "s", ("cross", "z", "l", "k", 0), ()), ("step", "s", ("cross", "w", "l", "k", 1), ()))
        by_name = dict(zip([step[1] for step in self.house.sketch("s")], self.house.things("s")))
        self.assertEqual([by_name[name] for name in "xyzw"], [hand_of(-3, 4)] * 2 + [hand_of(-3, -4), hand_of(-3, 4)])
        self.assertEqual(self.do(("move", "s", self.house.hand("s"))), ())

    def test_out(self):
        self.do(("sketch", "s", CROSSED + lines_as_sketch("line m x o", "on q m", "free c", "circle j c o", "middle h c x"),
                 FIRST + hand_of(2, 1, 1)))
        self.do(("move", "s", SECOND + hand_of(3, 1, 1)))
        self.assertEqual(self.do(("out", "s", "c")), ("c", "j", "h"))
        self.assertEqual(self.house.hand("s"), SECOND + hand_of(3))
        self.assertEqual(self.house.things("s")[6], hand_of(-3, 4))
        self.do(("back", "s"), refused(errors.NoBack))
        self.assertEqual(self.do(("out", "s", "x")), ("x", "m", "q"))
        self.assertEqual(self.house.things("s")[6], hand_of(-3, 4))
        self.assertEqual(self.do(("out", "s", "y")), ("y",))
        self.assertEqual(self.do(("out", "s", "a")), ("a", "l"))
        self.assertEqual(self.do(("out", "s", "o")), ("o", "k"))
        self.do(("out", "s", "o"), refused(errors.Missing, "o"))
        self.done(("out", "s", "p"), ("out", "s", "b"))
        self.assertEqual(self.house.sketch("s"), ())

    def test_call(self):
        self.do(("sketch", "s", CROSSED, FIRST))
        self.do(("move", "s", SECOND))
        things = self.house.things("s")
        self.assertIsNone(self.do(("call", "s", "x", "free")))
        self.do(("back", "s"), refused(errors.NoBack))
        self.assertEqual(self.house.sketch("s")[6], ("cross", "free", "l", "k", 0))
        self.assertEqual(self.house.things("s"), things)
        self.done(("call", "s", "l", "line"), ("call", "s", "o", "x"), ("call", "s", "y", "o"))
        self.assertEqual(self.house.sketch("s"), lines_as_sketch(
            "free x", "free p", "free a", "free b", "line line a b", "circle k x p", "cross free line k 0", "cross o line k 1"))
        self.assertEqual(self.house.things("s"), things)
        self.do(("call", "s", "zz", "q"), refused(errors.Missing, "zz"))
        self.do(("call", "s", "x", "o"), refused(errors.Taken, "o"))
        self.do(("call", "s", "x", "x"), refused(errors.Taken, "x"))

    def test_claims(self):
        self.do(("sketch", "s", PLAIN, PLAIN_HAND))
        self.assertEqual(self.do(("claim", "s", ("at", "m", "l"))), "holds")
        self.assertEqual(self.do(("claim", "s", ("same", "p", "a"))), "fails")
        self.assertEqual(self.do(("claim", "s", ("at", "c", "l"))), "fails")
        self.assertEqual(self.house.claims("s"), tuple((saying, ask(PLAIN, saying)) for saying in (
            ("at", "m", "l"), ("same", "p", "a"), ("at", "c", "l"))))
        # Claimed twice it is kept once, where it is.
        self.assertEqual(self.do(("claim", "s", ("at", "m", "l"))), "holds")
        self.assertEqual([saying for saying, _ in self.house.claims("s")],
                         [("at", "m", "l"), ("same", "p", "a"), ("at", "c", "l")])
        self.assertEqual(self.do(("claim", "s", ("same", "a", "p"))), "fails")
        self.assertEqual(len(self.house.claims("s")), 4)
        self.done(("move", "s", hand_of(1, 1, 1, 1, 1, 1, 1)), ("back", "s"))
        self.assertEqual(len(self.house.claims("s")), 4)

    def test_claims_behind_a_change(self):
        self.do(("sketch", "s", PLAIN, PLAIN_HAND))
        self.done(("claim", "s", ("at", "m", "l")), ("claim", "s", ("same", "p", "a")), ("claim", "s", ("at", "c", "l")),
                  ("claim", "s", ("row", "a", "b", "m")))
        # Of one unknown more the rows and the hands are others.
        ahead = dict(self.house.claims("s"))
        self.done(("step", "s", ("free", "d"), hand_of(1, 2)))
        behind = dict(self.house.claims("s"))
        self.assertEqual(list(ahead), list(behind))
        self.assertNotEqual(ahead["at", "m", "l"], behind["at", "m", "l"])
        self.assertEqual(behind["same", "p", "a"][1], ahead["same", "p", "a"][1] + hand_of(0, 0))
        self.assertTrue(rows_hold(self.house.sketch("s"), ("at", "m", "l"), behind["at", "m", "l"][1]))
        self.done(("call", "s", "m", "at"), ("call", "s", "a", "same"))
        self.assertEqual([saying for saying, _ in self.house.claims("s")],
                         [("at", "at", "l"), ("same", "p", "same"), ("at", "c", "l"), ("row", "same", "b", "at")])
        self.assertEqual(self.do(("out", "s", "p")), ("p",))
        self.assertEqual([saying for saying, _ in self.house.claims("s")],
                         [("at", "at", "l"), ("at", "c", "l"), ("row", "same", "b", "at")])
        self.assertEqual(self.do(("out", "s", "c")), ("c",))
        self.assertEqual([saying for saying, _ in self.house.claims("s")], [("at", "at", "l"), ("row", "same", "b", "at")])
        self.assertEqual(self.do(("out", "s", "l")), ("l",))
        self.assertEqual([saying for saying, _ in self.house.claims("s")], [("row", "same", "b", "at")])

    def test_a_claim_whose_answer_is_another_one_behind(self):
        # Behind out other ones are the first two free ones.
        sketch = lines_as_sketch("free a", "free b", "free c", "free d", "free e")
        self.do(("sketch", "s", sketch, hand_of(0, 0, 1, 0, 2, 0, 3, 0, 4, 4)))
        self.done(("claim", "s", ("same", "c", "d")), ("claim", "s", ("row", "c", "d", "e")))
        ahead = self.house.claims("s")
        self.assertEqual(ahead[0][1], ("fails", hand_of(0, 0, 1, 0, 0, 0, 0, 1, 0, 0)))
        self.assertEqual(self.do(("out", "s", "a")), ("a",))
        self.assertEqual(self.house.claims("s")[0][1], ("fails", hand_of(0, 0, 1, 0, 0, 0, 0, 0)))
        self.assertEqual(self.do(("out", "s", "b")), ("b",))
        self.assertEqual(self.house.claims("s"), tuple((saying, ask(self.house.sketch("s"), saying)) for saying, _ in ahead))
        self.assertEqual(self.house.claims("s")[0][1], ("fails", hand_of(0, 0, 1, 0, 0, 0)))

    def test_make(self):
        lesson = (PLAIN[:4], WISHES)
        self.do(("lesson", "mid", *lesson))
        for steps, word in (((("middle", "x", "a", "b"),), "held"), ((("free", "x"),), "fails"), ((), "lacks"),
                            ((("free", "a"),), "wrong"),
                            ((("middle", "x", "x", "x"),), "wrong"),
                            ((("circle", "k", "c", "a"), ("cross", "x", "l", "k", 0)), "plain"),
                            (lines_as_sketch("middle d a b", "line n d d", "foot x c n"), "wrong"),
                            (lines_as_sketch("middle d a b", "middle e b a", "line n d e", "foot x c n"), "never")):
            told = self.do(("make", "mid", steps))
            self.assertEqual(told, judged(lesson, steps))
            self.assertEqual(told[0], word)
            # Nothing is kept.
            self.assertEqual(self.house.titles(), ("mid",))
            self.assertEqual(self.house.lesson("mid"), lesson)

    def test_log(self):
        self.assertEqual(House().log(), ())
        self.do(("sketch", "s", (), ()))
        self.do(("sketch", "s", (), ()), refused(errors.Taken, "s"))
        self.do("drop", refused(errors.NoDeed, "drop"))
        self.do(("all", (("step", "s", ("free", "a"), hand_of(0, 0)), ("all", (("back", "s"),)), ("drop", "s"))))
        self.do(("all", (("drop", "s"), ("all", ()), ("lesson", "t", (), (("same", "a", "b"),)))))
        self.assertEqual(self.house.log(), tuple(
            "in sketch,out sketch,in sketch,out sketch,in none,out none,in all,in step,out step,in all,in back,out back,out all,out all,"
            "in all,in drop,out drop,in all,out all,in lesson,out lesson,out all".split(",")))
        self.do(("all", (("make", "t", ()), ("none",))))
        self.assertEqual(self.house.log()[-2:], ("in none", "out none"))


class Alls(Housed):
    def test_none_and_many(self):
        self.assertEqual(self.do(("all", ())), ())
        told = self.do(("all", (("sketch", "s", CROSSED, FIRST), ("move", "s", SECOND), ("back", "s"),
                                ("claim", "s", ("at", "a", "l")),
                                ("out", "s", "x"), ("lesson", "t", PLAIN, WISHES), ("make", "t", ()),
                                ("all", (("drop", "t"),)))))
        self.assertEqual(told, (None, ("x",), None, "holds", ("x",), None, ("lacks", "x"), (None,)))
        calls = [("call", "s", "c" * many, "c" * (many + 1)) for many in range(1, 8)]
        self.assertEqual(self.do(("all", (("step", "s", ("free", "c"), hand_of(0, 0)), *calls))), (None,) * 8)
        self.assertIn("cccccccc", [step[1] for step in self.house.sketch("s")])

    def test_four_deep_and_five(self):
        self.do(("sketch", "s", CROSSED, FIRST))
        inner = ("step", "s", ("free", "c"), hand_of(1, 1))
        deed, wanted = inner, None
        for _ in range(4):
            deed, wanted = ("all", (deed,)), (wanted,)
            self.assertEqual(self.do(deed), wanted)
            self.done(("out", "s", "c"))
        for five in (("all", (deed,)), ("all", (inner, ("all", (deed, inner)))),
                     ("all", (("all", (("all", (("all", (("all", ()),)),)),)),))):
            self.do(five, refused(errors.NoDeed, five))
        self.assertEqual(self.do(("all", (inner, ("all", (("all", (("all", ()),)), ("out", "s", "c")))))),
                         (None, (((),), ("c",))))

    def test_a_refusal_at_each_depth(self):
        self.done(("sketch", "s", CROSSED, FIRST), ("move", "s", SECOND), ("sketch", "t", PLAIN, PLAIN_HAND),
                  ("claim", "t", ("at", "p", "l")))
        good = (("move", "s", THIRD), ("back", "s"), ("back", "s"), ("drop", "t"), ("call", "s", "x", "xx"),
                ("sketch", "u", PLAIN, PLAIN_HAND),
                ("claim", "u", ("at", "c", "l")), ("out", "s", "o"), ("lesson", "v", (), (("same", "a", "b"),)))
        bad = ("step", "s", ("line", "m", "a", "a"), ())
        cause = refused(errors.NoFit, bad[2])
        for at in range(len(good) + 1):
            self.do(("all", (*good[:at], bad, *good[at:])), refused(errors.Undone, at, cause=cause))
            deed, told = ("all", (*good[:at], bad, *good[at:])), refused(errors.Undone, at, cause=cause)
            for deep in range(1, 4):
                deed = ("all", (("move", "s", FIRST), ("sketch", "w" * deep, (), ()), deed, ("drop", "s")))
                told = refused(errors.Undone, 2, cause=told)
                self.do(deed, told)
        # The Board, its moves and its choices, too, are as ahead: the move of the beginning can be taken back.
        self.assertEqual(self.house.things("s")[6], hand_of(-3, 4))
        self.done(("back", "s"),)
        self.assertEqual(self.house.things("s"), drawn(CROSSED, FIRST))
        self.do(("back", "s"), refused(errors.NoBack))

    def test_each_refusal(self):
        self.done(("sketch", "s", CROSSED, FIRST), ("sketch", "t", lines_as_sketch("free a", "free b", "middle m a b",
                                                                                   "middle n b a", "line l m n"),
                                                     hand_of(0, 0, 1, 1)))
        for bad, cause in ((("drop", "u"), refused(errors.Missing, "u")), (("sketch", "s", (), ()), refused(errors.Taken, "s")),
                           (("back", "s"), refused(errors.NoBack)), (("claim", "s", ("at", "x", "l")),
                                                                     refused(errors.NotPlain, 6)),
                           (("claim", "t", ("at", "a", "l")), refused(errors.NeverDone, 4)),
                           (("move", "t", ()), refused(errors.NoFit, ()))):
            self.do(("all", (("call", "s", "a", "aa"), bad)), refused(errors.Undone, 1, cause=cause))
        self.assertEqual(self.house.sketch("s"), CROSSED)

    def test_classes(self):
        house = House()
        with self.assertRaises(errors.PointError) as caught:
            house.do(("all", (("all", (("drop", "s"),)),)))
        self.assertIs(type(caught.exception), errors.Undone)
        self.assertIs(type(caught.exception.__cause__), errors.Undone)
        self.assertIs(type(caught.exception.__cause__.__cause__), errors.Missing)
        self.assertIsInstance(caught.exception.__cause__.__cause__, KeyError)
        self.assertNotIsInstance(caught.exception, KeyError)


class Refusals(Housed):
    def setUp(self):
        super().setUp()
        self.done(("sketch", "s", CROSSED, FIRST), ("lesson", "t", PLAIN, WISHES), ("sketch", "p", PLAIN, PLAIN_HAND),
                  ("sketch", "n", lines_as_sketch("free a", "free b", "middle m a b", "middle n b a", "line l m n",
                                                  "circle k a b", "cross x l k 0"),
                   hand_of(0, 0, 1, 1)))

    GOOD = (
        ("sketch", "u", PLAIN, PLAIN_HAND), ("lesson", "v", PLAIN, WISHES), ("drop", "s"),
        ("step", "s", ("free", "c"), hand_of(1, 2)),
        ("step", "s", ("turn", "c", "a", "b", 3), ()), ("step", "s", ("cross", "c", "l", "k", 1), ()),
        ("call", "s", "x", "z"), ("back", "s"),
        ("out", "s", "x"), ("move", "s", SECOND), ("claim", "s", ("at", "a", "l")), ("claim", "s", ("same", "a", "b")),
        ("make", "t", (("free", "x"),)), ("make", "t", ()), ("all", ()), ("all", (("drop", "s"), ("back", "p"))),
    )

    def no_deed(self, thing):
        self.do(thing, refused(errors.NoDeed, thing))

    def test_other_kinds_are_no_deeds(self):
        for thing in OTHER_KINDS:
            self.no_deed(thing)
            self.no_deed(("all", (thing,)))
            self.no_deed(("all", (("drop", "s"), thing)))
            self.no_deed(("all", (("all", (thing,)),)))
        deep = ()
        for _ in range(29):
            deep = (deep,)
        for thing in (deep, ("all", deep), ("drop", deep), ("all", (("drop", "zz"),) * 9000 + (None,)), ("drop", "s" * 4000)):
            self.no_deed(thing)
        for _ in range(29):
            deep = ("all", (deep,))
        self.no_deed(deep)

    def test_each_part_put_otherwise(self):
        others = (*OTHER_KINDS, "A", "abcdefghi", "a b", ("free", "Q"), ("free", "q", "q"), hand_of(1)[0:1] + (1,),
                  (root(2),), ("same", "a"),
                  (("free", "a"), ("free", "a")), [("free", "a")], 1, ("at", "a", "l", "l"))
        for deed in self.GOOD:
            self.no_deed(deed[:-1])
            self.no_deed(deed + ((),))
            self.no_deed(deed + (None,))
            self.no_deed(list(deed))
            self.no_deed((deed[0] + "s", *deed[1:]))
            self.no_deed((None, *deed[1:]))
            self.no_deed(deed[1:])
            for at in range(1, len(deed)):
                for other in others:
                    spoilt = (*deed[:at], other, *deed[at + 1:])
                    house = copy.deepcopy(self.anew)
                    try:
                        house.do(spoilt)
                        continue
                    except Refused as error:
                        if error.kind is not errors.NoDeed:
                            continue
                    self.no_deed(spoilt)

    def test_parts_by_their_form_alone(self):
        for thing in (("step", "s", ("turn", "c", "a", "b", 4), ()), ("step", "s", ("turn", "c", "a", "b", True), ()),
                      ("step", "s", ("turn", "c", "a", "b"), ()),
                      ("step", "s", ("free", "c", "d"), ()), ("step", "s", ("fre", "c"), ()),
                      ("step", "s", ["free", "c"], hand_of(1, 2)),
                      ("step", "s", ("free", "c"), [*hand_of(1, 2)]), ("step", "s", ("free", "c"), (1, 2)),
                      ("step", "s", ("free", "c"), (root(2), Exact(1))),
                      ("step", "s", ("cross", "c", "l", "k", 2), ()), ("claim", "s", ("unlike", "a", "b")),
                      ("claim", "s", ("same", "a")),
                      ("claim", "s", ("at", "a", "L")), ("make", "t", (("free", "x"), ("free",))),
                      ("make", "t", [("free", "x")]),
                      ("make", "t", ("free", "x")), ("lesson", "v", PLAIN, ()), ("lesson", "v", PLAIN, WISHES * 3),
                      ("lesson", "v", PLAIN, (("same", "l", "a"),)),
                      ("lesson", "v", (("free", "a"), ("free", "a")), WISHES),
                      ("sketch", "v", (("line", "l", "a", "b"),), ()), ("sketch", "V", (), ()),
                      ("sketch", "v", PLAIN, [*PLAIN_HAND]), ("call", "s", "a", "A"), ("call", "s", "a", "abcdefghi"),
                      ("call", "s", "", "b"),
                      ("move", "s", SECOND[:7] + (root(3),)), ("move", "s", None), ("out", "s", ("x",)), ("back", "s", "s"),
                      ("drop", None), ("all", [()])):
            self.no_deed(thing)
        # Whatever the sketch has, these are deeds.
        for deed, wanted in ((("step", "s", ("line", "m", "q", "q"), ()), refused(errors.NoFit, ("line", "m", "q", "q"))),
                             (("step", "s", ("line", "m", "m", "a"), ()), refused(errors.NoFit, ("line", "m", "m", "a"))),
                             (("step", "s", ("line", "m", "a", "a"), ()), refused(errors.NoFit, ("line", "m", "a", "a"))),
                             (("make", "t", (("line", "m", "m", "m"),)), ("wrong", 0)),
                             (("claim", "s", ("same", "q", "q")), refused(errors.NoFit, ("same", "q", "q")))):
            self.do(deed, wanted)

    def test_missing(self):
        for title in ("u", "t"):
            for deed in (("step", title, ("free", "o"), ()), ("call", title, "zz", "o"), ("back", title),
                         ("out", title, "zz"), ("move", title, ()),
                         ("claim", title, ("same", "zz", "zz"))):
                self.do(deed, refused(errors.Missing, title))
        for title in ("u", "s", "p"):
            self.do(("make", title, ()), refused(errors.Missing, title))
        self.do(("drop", "u"), refused(errors.Missing, "u"))
        self.do(("out", "s", "zz"), refused(errors.Missing, "zz"))
        self.do(("call", "s", "zz", "z"), refused(errors.Missing, "zz"))
        # Missing ahead of Taken.
        self.do(("call", "s", "zz", "x"), refused(errors.Missing, "zz"))

    def test_taken(self):
        for title in ("s", "t", "p"):
            self.do(("sketch", title, PLAIN, PLAIN_HAND), refused(errors.Taken, title))
            self.do(("lesson", title, PLAIN, WISHES), refused(errors.Taken, title))
            # Taken ahead of NoFit.
            self.do(("sketch", title, PLAIN, ()), refused(errors.Taken, title))
        self.do(("step", "s", ("free", "x"), hand_of(1, 2)), refused(errors.Taken, "x"))
        self.do(("step", "s", ("line", "x", "q", "q"), hand_of(1)), refused(errors.Taken, "x"))
        self.do(("call", "s", "x", "y"), refused(errors.Taken, "y"))
        self.do(("call", "s", "x", "x"), refused(errors.Taken, "x"))

    def test_no_fit(self):
        for step in (("line", "m", "a", "zz"), ("line", "m", "a", "l"), ("line", "m", "a", "a"), ("meet", "m", "l", "k"),
                     ("on", "m", "k"),
                     ("round", "m", "l"), ("other", "m", "l", "k", "a"), ("turn", "m", "a", "l", 1),
                     ("cross", "m", "k", "l", 0), ("on", "m", "m")):
            self.do(("step", "s", step, ()), refused(errors.NoFit, step))
            # The step ahead of its numbers.
            self.do(("step", "s", step, hand_of(1, 2, 3)), refused(errors.NoFit, step))
        for step, many in ((("free", "m"), 2), (("on", "m", "l"), 1), (("round", "m", "k"), 1),
                           (("middle", "m", "a", "b"), 0), (("cross", "m", "l", "k", 0), 0)):
            for other in range(4):
                numbers = hand_of(*range(other))
                if other != many:
                    self.do(("step", "s", step, numbers), refused(errors.NoFit, numbers))
            self.done(("step", "s", step, hand_of(*range(many))), ("out", "s", "m"))
        for many in (0, 7, 9):
            hand = hand_of(*range(many))
            self.do(("move", "s", hand), refused(errors.NoFit, hand))
            self.do(("sketch", "u", CROSSED, hand), refused(errors.NoFit, hand))
        for saying in (("same", "a", "zz"), ("same", "a", "l"), ("at", "a", "b"), ("at", "l", "k"), ("row", "a", "b", "k"),
                       ("at", "zz", "l")):
            self.do(("claim", "s", saying), refused(errors.NoFit, saying))
        # NoFit ahead of NotPlain.
        self.do(("claim", "s", ("same", "x", "zz")), refused(errors.NoFit, ("same", "x", "zz")))

    def test_plain_and_never(self):
        self.do(("claim", "s", ("same", "x", "a")), refused(errors.NotPlain, 6))
        self.do(("claim", "s", ("row", "y", "x", "a")), refused(errors.NotPlain, 6))
        self.do(("claim", "s", ("row", "y", "y", "a")), refused(errors.NotPlain, 7))
        self.do(("claim", "n", ("at", "a", "l")), refused(errors.NeverDone, 4))
        self.do(("claim", "n", ("at", "x", "l")), refused(errors.NeverDone, 4))
        self.do(("claim", "n", ("at", "b", "k")), "holds")
        self.do(("claim", "n", ("at", "m", "k")), "fails")
        self.assertEqual(len(self.house.claims("n")), 2)

    def test_nothing_is_changed(self):
        ahead = self.house
        for deed in self.GOOD:
            for at in range(1, len(deed)):
                self.do((*deed[:at], None, *deed[at + 1:]), refused(errors.NoDeed, (*deed[:at], None, *deed[at + 1:])))
        self.assertEqual(ahead, self.house)


class Told(Housed):
    def test_missing(self):
        self.done(("sketch", "s", PLAIN, PLAIN_HAND), ("lesson", "t", PLAIN, WISHES))
        deep = ()
        for _ in range(29):
            deep = (deep, [deep])[:1]
        for title in (*OTHER_KINDS, "u", "S", "s ", ("s",), ["s"], {"s": "s"}, deep, "s" * 4000, 10 ** 59):
            for asked in (self.house.sketch, self.house.hand, self.house.things, self.house.claims, self.house.lesson):
                with self.assertRaises(errors.Missing) as caught:
                    asked(title)
                self.assertEqual(caught.exception.name, title)
                self.assertEqual(type(caught.exception), errors.Missing)
            self.assertIs(self.house.has(title), False)
        for asked, title in ((self.house.sketch, "t"), (self.house.hand, "t"), (self.house.things, "t"),
                             (self.house.claims, "t"), (self.house.lesson, "s")):
            with self.assertRaises(errors.Missing) as caught:
                asked(title=title)
            self.assertEqual(caught.exception.name, title)
        self.assertIs(self.house.has("s"), True)
        self.assertIs(self.house.has(title="t"), True)

    def test_by_names(self):
        house = House()
        self.assertIsNone(house.do(deed=("sketch", "s", PLAIN, PLAIN_HAND)))
        self.assertIsNone(house.do(deed=("lesson", "t", PLAIN, WISHES)))
        self.assertEqual((house.sketch(title="s"), house.hand(title="s"), house.things(title="s")),
                         (PLAIN, PLAIN_HAND, drawn(PLAIN, PLAIN_HAND)))
        self.assertEqual((house.claims(title="s"), house.lesson(title="t")), ((), (PLAIN, WISHES)))
        self.assertEqual(house.titles(by=None), ("s", "t"))

    def test_titles_by_a_function(self):
        many = {"b": 3, "aa": 0, "c": 3, "a": 1, "zz": 2, "ab": 0}
        for title, steps in many.items():
            self.done(("sketch", title, PLAIN[:steps], PLAIN_HAND[:2 * min(steps, 3)]))
        self.done(("lesson", "les", PLAIN, WISHES), ("lesson", "d", PLAIN, WISHES))
        many.update(les=0, d=0)
        called = []

        def by(title, steps):
            called.append((title, steps))
            return steps

        self.assertEqual(self.house.titles(by), ("aa", "ab", "d", "les", "a", "zz", "b", "c"))
        self.assertEqual(sorted(called), sorted(many.items()))
        self.assertEqual(self.house.titles(by=lambda title, steps: -steps), ("b", "c", "zz", "a", "aa", "ab", "d", "les"))
        self.assertEqual(self.house.titles(lambda title, steps: title[::-1]),
                         tuple(sorted(many, key=lambda title: (title[::-1], title))))
        self.assertEqual(self.house.titles(lambda title, steps: (len(title), -steps)),
                         ("b", "c", "a", "d", "zz", "aa", "ab", "les"))
        self.assertEqual(self.house.titles(lambda title, steps: True), tuple(sorted(many)))
        self.assertEqual(self.house.titles(lambda title, steps: "same"), self.house.titles())
        self.assertEqual(House().titles(by), ())

    def test_equal(self):
        def made(*deeds):
            house = House()
            for deed in deeds:
                try:
                    house.do(deed)
                except errors.NoDeed:
                    pass
            return house

        first = (("sketch", "s", CROSSED, FIRST), ("lesson", "t", PLAIN, WISHES))
        one = made(*first)
        self.assertTrue(one == made(*first[::-1]))
        self.assertTrue(one == made(*first, None, None))
        self.assertTrue(one == made(*first, ("move", "s", SECOND), ("back", "s")))
        self.assertTrue(House() == House())
        turned = made(*first, ("move", "s", SECOND))
        others = [
            House(), made(first[0]), made(first[1]), made(("sketch", "u", CROSSED, FIRST), first[1]),
            made(("sketch", "s", CROSSED[:7], FIRST), first[1]),
            made(("sketch", "s", CROSSED, SECOND), first[1]), turned, made(*first, ("move", "s", FIRST)),
            made(*first, ("claim", "s", ("at", "a", "l"))),
            made(first[0], ("lesson", "t", PLAIN, WISHES[:1])), made(first[0], ("lesson", "t", PLAIN[:5], WISHES)),
            made(first[0], ("sketch", "t", (), ())),
            made(*first, ("sketch", "u", (), ())), made(*first, ("call", "s", "x", "z")),
        ]
        for other in others:
            self.assertFalse(one == other)
            self.assertTrue(other == other)
            self.assertTrue(one != other)
        # Choices alone: behind a step there is no move to go back, but the choices that the moves turned stay.
        step, again = ("step", "s", ("free", "c"), hand_of(0, 0)), ("out", "s", "c")
        here = made(*first, ("move", "s", SECOND), ("move", "s", FIRST), step, again)
        self.assertEqual((here.sketch("s"), here.hand("s")), (one.sketch("s"), one.hand("s")))
        self.assertFalse(here == one)
        claims = [("claim", "s", ("at", "a", "l")), ("claim", "s", ("at", "b", "l"))]
        self.assertTrue(made(*first, *claims) == made(*first, *claims))
        for other in (None, 0, "house", (), one.titles(), HouseAnew(), Board((), ())):
            self.assertFalse(one == other)

    def test_houses_share_nothing(self):
        one, other = House(), House()
        deeds = (("sketch", "s", CROSSED, FIRST), ("move", "s", SECOND), ("claim", "s", ("at", "a", "l")),
                 ("lesson", "t", PLAIN, WISHES))
        for deed in deeds:
            one.do(deed)
            self.assertFalse(one == other)
            other.do(deed)
            self.assertTrue(one == other)
        one.do(("back", "s"))
        self.assertEqual((other.hand("s"), one.hand("s")), (SECOND, FIRST))
        one.do(("drop", "s"))
        self.assertTrue(other.has("s"))
        self.assertEqual(len(House()), 0)

    def test_what_was_told_stays(self):
        self.done(("sketch", "s", CROSSED, FIRST), ("claim", "s", ("at", "a", "l")), ("lesson", "t", PLAIN, WISHES))
        told = (self.house.titles(), self.house.sketch("s"), self.house.hand("s"), self.house.things("s"),
                self.house.claims("s"), self.house.log(),
                self.house.lesson("t"))
        ahead = copy.deepcopy(told)
        self.assertEqual({type(part) for part in told}, {tuple})
        self.done(("move", "s", SECOND), ("step", "s", ("free", "c"), hand_of(1, 1)), ("claim", "s", ("at", "b", "l")),
                  ("drop", "t"), ("call", "s", "a", "aa"),
                  ("out", "s", "b"), ("drop", "s"))
        self.assertEqual(told, ahead)


class ByChance(Housed):
    NAMES = ("a", "b", "c", "d", "e")
    TITLES = ("s", "t", "u")

    def any_step(self, chance, sketch):
        if chance.random() < 0.8:
            more = any_sketch(chance, len(sketch) + 1, sketch)
            return more[-1]
        return chance.choice((("free", chance.choice(self.NAMES)), ("line", "q", "a", "b"), ("line", "a", "a", "a")))

    def any_deed(self, chance, deep=0):
        """A deed, most often one that is about something kept."""
        title = chance.choice(sorted(self.anew.kept) * 2 + list(self.TITLES))
        kept = self.anew.kept.get(title, {"sort": None})
        sketch = kept["sketch"] if kept["sort"] == "sketch" else lines_as_sketch("free a", "free b")
        names = [step[1] for step in sketch] + ["zz"]
        word = chance.choice(("sketch", "lesson", "drop", "step", "step", "step", "call", "back", "out", "move", "move",
                              "claim", "claim", "make", "all", "all"))
        if word == "all":
            return (word, tuple(self.any_deed(chance, deep + 1) for _ in range(chance.randint(0, 3)))) if deep < 5 else (word,
                                                                                                                         ())
        hand = any_hand(chance, numbers_for(sketch) if chance.random() < 0.9 else 3)
        if word == "sketch":
            new = any_sketch(chance, chance.randint(0, 5), chance.choice(((), CROSSED,
                                                                          PLAIN[:4])) if chance.random() < 0.7 else ())
            new = new[:10]
            return word, title, new, any_hand(chance, numbers_for(new))
        if word == "lesson":
            return word, title, PLAIN, (self.any_saying(chance, PLAIN),)
        if word in ("drop", "back"):
            return word, title
        if word == "step":
            step = self.any_step(chance, sketch)
            return word, title, step, any_hand(chance, numbers_for((step,)) if chance.random() < 0.9 else 1)
        if word == "call":
            return word, title, chance.choice(names), chance.choice((*names, "y", "w"))
        if word == "out":
            return word, title, chance.choice(names)
        if word == "move":
            return word, title, hand
        if word == "claim":
            return word, title, self.any_saying(chance, sketch)
        return word, title, (self.any_step(chance, PLAIN),)[:chance.randint(0, 1)]

    def any_saying(self, chance, sketch):
        points = [step[1] for step in sketch if sort_made(step) == "point"] or ["zz"]
        word = chance.choice(list(SAYINGS))
        return (word, *[chance.choice(points) for _ in range(SAYINGS[word])])

    def test_deeds_by_chance(self):
        met = {}
        for seed in range(60):
            chance = random.Random(seed)
            self.setUp()
            self.done(("sketch", "s", CROSSED, FIRST), ("sketch", "t", PLAIN, PLAIN_HAND), ("lesson", "les", PLAIN, WISHES))
            for _ in range(25):
                deed = self.any_deed(chance)
                told = self.do(deed)
                word = told[0] if isinstance(told, tuple) and told and isinstance(told[0],
                                                                                  str) and told[0][0].isupper() else "done"
                met[deed[0], word] = met.get((deed[0], word), 0) + 1
        for word in ("sketch", "lesson", "drop", "step", "call", "back", "out", "move", "claim", "make", "all"):
            self.assertGreater(met[word, "done"], 2, met)
        for word in ("Missing", "Taken", "NoFit", "NoBack", "NotPlain", "Undone"):
            self.assertGreater(sum(many for (_, told), many in met.items() if told == word), 5, met)


class Times(Housed):
    def test_eighty_deeds(self):
        started = time.process_time()
        house = House()
        house.do(("sketch", "s", (), ()))
        steps = [("free", "a"), ("free", "b"), ("free", "c"), ("line", "l", "a", "b"), ("line", "m", "b", "c"),
                 ("on", "p", "l"), ("circle", "k", "a", "c"),
                 ("cross", "x", "m", "k", 0), ("cross", "y", "l", "k", 1), ("foot", "f", "c", "l"), ("mirror", "g", "a", "m"),
                 ("middle", "h", "a", "p"),
                 ("turn", "t", "c", "a", 3), ("meet", "q", "l", "m")]
        for step in steps:
            house.do(("step", "s", step, hand_of("999983/999979", "-777777/999999")[:numbers_for((step,))]))
        for saying in (("at", "q", "m"), ("row", "a", "b", "h"), ("upright", "c", "f", "a", "b"),
                       ("alike", "c", "b", "g", "f"), ("same", "t", "c")):
            house.do(("claim", "s", saying))
        chance = random.Random(1)
        for _ in range(20):
            hand = tuple(Exact(chance.randint(-999999, 999999), chance.randint(1, 999999)) for _ in range(7))
            house.do(("all", (("move", "s", hand), ("all", (("all", (("all", (("move", "s", hand_of(0, 0, 5, 0, 3, 4, 1)),)),
                                                                     )),)))))
        for _ in range(40):
            house.do(("back", "s"))
        self.assertEqual(house.sketch("s"), tuple(steps))
        self.assertTrue(all(goes_on(steps[:at], step) for at, step in enumerate(steps)))
        self.assertEqual(house.hand("s")[:2], (exact("999983/999979"), exact("-777777/999999")))
        self.assertLess(time.process_time() - started, 20)
