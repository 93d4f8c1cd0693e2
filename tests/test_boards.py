import copy
import random
import unittest

from pointhouse import errors
from pointhouse.boards import Board
from pointhouse.bounds import SIGNS, WAYS
from pointhouse.drawing import drawn, numbers_for
from tests.anew import BoardAnew
from tests.helper import (
    NO_WHOLES, SKETCHES, WITH_CROSSES, any_hand, chance_sketches, flat, hand_of, lines_as_sketch, place, root,
)

# x and y are the crosses of the line through a, b with the circle about o through p; m hangs on x.
LINE_AND_CIRCLE = lines_as_sketch("free o", "free p", "free a", "free b", "line l a b", "circle k o p", "cross x l k 0",
                                  "cross y l k 1", "middle m x o")
# The cross z hangs on x, too.
ON_A_CROSS = lines_as_sketch("free o", "free p", "free a", "free b", "line l a b", "circle k o p", "cross x l k 0",
                             "upright u x l", "cross z u k 1")


def level(y):
    """The hand by which the circle has the radius 5 about (0, 0), and the line is level at y."""
    return hand_of(0, 0, 5, 0, 0, y, 1, y)


def steep(x):
    return hand_of(0, 0, 5, 0, x, 0, x, 1)


def crosses(sketch):
    return tuple(step[1] for step in sketch if step[0] == "cross")


def seen(board):
    return board.hand(), board.things(), board.choices(), len(board)


class Made(unittest.TestCase):
    def test_drawn_as_without_a_board(self):
        for chance, sketch in chance_sketches(6000, 6200):
            hand = any_hand(chance, numbers_for(sketch))
            ahead = copy.deepcopy((sketch, hand))
            own = tuple((step[1], step[4]) for step in sketch if step[0] == "cross")
            for board in (Board(sketch, hand), Board(sketch, hand, way="near"), Board(hand=hand, sketch=sketch, way=SIGNS),
                          Board(sketch, hand, choices=()), Board(sketch, hand, choices=own, way="near")):
                self.assertEqual(seen(board), (hand, drawn(sketch, hand), own, 0))
                self.assertEqual([type(thing) for thing in seen(board)], [tuple, tuple, tuple, int])
                self.assertEqual(seen(board), seen(board))
            self.assertEqual((sketch, hand), ahead)

    def test_choices(self):
        hand = level(3)
        cases = (((), (0, 1)), ((("x", 1),), (1, 1)), ((("y", 0),), (0, 0)), ((("y", 0), ("x", 1)), (1, 0)),
                 ((("x", 0), ("y", 1)), (0, 1)))
        for way in WAYS:
            for choices, wanted in cases:
                board = Board(LINE_AND_CIRCLE, hand, way=way, choices=choices)
                self.assertEqual(board.choices(), tuple(zip(("x", "y"), wanted)))
                places = [place(-4, 3), place(4, 3)]
                middles = [place(-2, "3/2"), place(2, "3/2")]
                x, y = wanted
                self.assertEqual(board.things()[6:], (places[x], places[y], middles[x]))

    def test_choices_where_there_is_one_meet_or_none(self):
        for choice in (0, 1):
            board = Board(LINE_AND_CIRCLE, level(5), choices=(("x", choice),))
            self.assertEqual(board.things()[6], place(0, 5))
            self.assertEqual(board.choices()[0], ("x", choice))
            board = Board(LINE_AND_CIRCLE, level(6), choices=(("x", choice),))
            self.assertEqual(board.things()[6:], (None, None, None))
            self.assertEqual(board.choices()[0], ("x", choice))

    def test_no_way(self):
        for way in NO_WHOLES + ("near ", "Near", "sign", "signsnear", b"near", ["near"], ("near",), {"near": 1}, 0, 1, 10 ** 59,
                                [[[]]], "\n"):
            with self.assertRaises(errors.NoWay) as caught:
                Board(LINE_AND_CIRCLE, level(3), way=way)
            self.assertIs(caught.exception.way, way)
            self.assertIs(type(caught.exception), errors.NoWay)
            self.assertIsInstance(caught.exception, KeyError)
            self.assertNotIsInstance(caught.exception, (errors.PointError, ValueError, errors.Missing))


class BySigns(unittest.TestCase):
    def test_choices_stay(self):
        board = Board(LINE_AND_CIRCLE, level(3), choices=(("y", 0),))
        for hand in (steep(3), level(-4), level(6), steep(-3), level(0)):
            self.assertEqual(board.move(hand), ())
            self.assertEqual(board.choices(), (("x", 0), ("y", 0)))
            changed = tuple(step[:4] + (0,) if step[0] == "cross" else step for step in LINE_AND_CIRCLE)
            self.assertEqual(board.things(), drawn(changed, hand))
            self.assertEqual(board.hand(), hand)
        self.assertEqual(len(board), 5)


class ByNear(unittest.TestCase):
    def board(self, hand, **choices):
        return Board(LINE_AND_CIRCLE, hand, way="near", choices=tuple(choices.items()))

    def test_a_cross_turns_over(self):
        board = self.board(level(3))
        self.assertEqual(board.move(hand=steep(-3)), ("x",))
        self.assertEqual(board.choices(), (("x", 1), ("y", 1)))
        self.assertEqual(board.things()[6:], (place(-3, 4), place(-3, 4), place("-3/2", 2)))
        self.assertEqual(board.move(steep(-3)), ())
        self.assertEqual(board.move(level(-4)), ("x", "y"))
        self.assertEqual(board.choices(), (("x", 0), ("y", 0)))
        self.assertEqual(board.things()[6:8], (place(-3, -4),) * 2)

    def test_no_cross_turns_over(self):
        board = self.board(level(3))
        for y in (4, 0, -3, -4, 3):
            self.assertEqual(board.move(level(y)), ())
            self.assertEqual(board.choices(), (("x", 0), ("y", 1)))

    def test_no_meet_for_a_while(self):
        board = self.board(level(-4))
        self.assertEqual(board.move(level(7)), ())
        self.assertEqual(board.things()[6:], (None, None, None))
        self.assertEqual(board.move(steep(6)), ())
        # x stood last at (-3, -4), y at (3, -4): of (3, -4) and (3, 4) both are nearer to the first one.
        self.assertEqual(board.move(steep(3)), ("y",))
        self.assertEqual(board.things()[6:8], (place(3, -4),) * 2)
        self.assertEqual(len(board), 3)

    def test_one_meet_for_a_while(self):
        # Behind (0, 5), where the line touches, both crosses are nearer to the upper meet.
        board = self.board(level(-4))
        self.assertEqual(board.move(level(5)), ())
        self.assertEqual(board.things()[6:8], (place(0, 5),) * 2)
        self.assertEqual(board.choices(), (("x", 0), ("y", 1)))
        self.assertEqual(board.move(steep(4)), ("x",))
        self.assertEqual(board.things()[6:8], (place(4, 3),) * 2)

    def test_a_cross_that_never_stood(self):
        board = self.board(level(6), x=1, y=0)
        self.assertEqual(board.move(level(9)), ())
        self.assertEqual(board.move(level(3)), ())
        self.assertEqual(board.choices(), (("x", 1), ("y", 0)))
        self.assertEqual(board.things()[6:8], (place(4, 3), place(-4, 3)))
        self.assertEqual(board.move(steep(-3)), ("y",))

    def test_a_tie(self):
        for x in (0, 1):
            for y in (0, 1):
                board = self.board(level(0), x=x, y=y)
                self.assertEqual(board.move(steep(0)), ())
                self.assertEqual(board.choices(), (("x", x), ("y", y)))

    def test_refused_squares(self):
        # From (-r24, 1) to (-1, r24) the roots go together; to (-2, r21), which is nearer than (-2, -r21), they don't.
        board = self.board(level(1))
        self.assertEqual(board.things()[6], (root(24, sign=-1), place(0, 1)[1]))
        self.assertEqual(board.move(steep(-1)), ("x",))
        board = self.board(level(1))
        self.assertEqual(board.move(steep(-2)), ())
        self.assertEqual(board.choices(), (("x", 0), ("y", 1)))
        # A way both ends of which have roots is refused ahead of any square.
        board = self.board(level(1), x=1, y=0)
        self.assertEqual(board.move(hand_of(0, 0, 5, 0, 0, 2, -1, 2)), ())
        self.assertEqual(board.choices(), (("x", 1), ("y", 0)))
        # The place that is refused is the last one behind it.
        board = self.board(level(1))
        board.move(steep(-2))
        self.assertEqual(board.things()[6:8], (place(-2, root(21, sign=-1)), place(-2, root(21))))
        self.assertEqual(board.move(level(-2)), ("y",))
        self.assertEqual(board.move(steep(2)), ())
        self.assertEqual(board.things()[6:8], (place(2, root(21, sign=-1)),) * 2)

    def test_what_hangs_on_a_turned_cross(self):
        board = Board(ON_A_CROSS, level(3), way="near")
        self.assertEqual(board.things()[6:], (place(-4, 3), hand_of(1, 0, -4), place(-4, 3)))
        # By its choice so far x would be (-3, -4); u goes through its new place, and of the meets there z takes its own.
        self.assertEqual(board.move(steep(-3)), ("x", "z"))
        self.assertEqual(board.things()[6:], (place(-3, 4), hand_of(0, 1, 4), place(-3, 4)))
        board = Board(ON_A_CROSS, level(3), way="near", choices=(("z", 0),))
        self.assertEqual(board.things()[8], place(-4, -3))
        self.assertEqual(board.move(steep(-3)), ("x",))
        self.assertEqual(board.things()[6:], (place(-3, 4), hand_of(0, 1, 4), place(-3, 4)))
        self.assertEqual(board.move(level(-3)), ("x", "z"))
        self.assertEqual(board.things()[6:], (place(-4, -3), hand_of(1, 0, -4), place(-4, 3)))

    def test_told_in_order_of_steps(self):
        rows = lines_as_sketch("free o", "free p", "free q", "free r", "circle k o p", "line l q r", "cross zz l k 0",
                               "cross b l k 0", "cross aa l k 1", "cross a l k 0")
        board = Board(rows, level(3), way="near")
        self.assertEqual(board.move(steep(-3)), ("zz", "b", "a"))
        self.assertEqual(board.move(level(-4)), ("zz", "b", "aa", "a"))

    def test_anew(self):
        met = {"turned": 0, "told": 0, "back": 0, "roots": 0}
        for chance, sketch in chance_sketches(6200, 6500):
            if not crosses(sketch):
                continue
            for near in (True, False):
                choices = tuple((name, chance.randint(0, 1)) for name in crosses(sketch) if chance.random() < 0.5)
                hand = any_hand(chance, numbers_for(sketch))
                board = Board(sketch, hand, way="near" if near else "signs", choices=choices)
                anew = BoardAnew(sketch, hand, near, choices)
                for _ in range(chance.randint(0, 7)):
                    if chance.random() < 0.25 and len(board):
                        self.assertIsNone(board.back())
                        anew.back()
                        met["back"] += 1
                    else:
                        hand = any_hand(chance, numbers_for(sketch))
                        told = board.move(hand)
                        self.assertEqual(told, anew.move(hand), sketch)
                        met["told"] += 1
                        met["turned"] += told != ()
                    self.assertEqual(seen(board), (anew.hand, anew.things, tuple(anew.choices.items()), len(anew.past)))
                    met["roots"] += any(number.sign for number in flat([thing for thing in board.things() if thing]))
        self.assertGreater(min(met.values()), 100, met)


class Back(unittest.TestCase):
    def test_all_is_as_ahead(self):
        for chance, sketch in chance_sketches(6500, 6600):
            hand = any_hand(chance, numbers_for(sketch))
            board, other = Board(sketch, hand, way="near"), Board(sketch, hand, way="near")
            hands = [any_hand(chance, numbers_for(sketch)) for _ in range(5)]
            stations = [seen(board)]
            for hand in hands:
                board.move(hand)
                stations.append(seen(board))
            for station in reversed(stations[:-1]):
                self.assertIsNone(board.back())
                self.assertEqual(seen(board), station)
            self.assertEqual(board, other)
            for hand in hands:
                self.assertEqual(board.move(hand), other.move(hand))
                self.assertEqual(seen(board), seen(other))

    def test_the_last_places_too(self):
        # Taken back from (3, -4), (3, 4) the crosses stood last at (-4, 3), (4, 3), as if never moved.
        moved, still = (Board(LINE_AND_CIRCLE, level(3), way="near") for _ in range(2))
        moved.move(steep(3))
        moved.back()
        for hand in (steep(-3), level(-4), steep(4)):
            self.assertEqual(moved.move(hand), still.move(hand))
            self.assertEqual(seen(moved), seen(still))
        # Of a cross that stood first behind the move taken back no place is left.
        board = Board(LINE_AND_CIRCLE, level(6), way="near")
        board.move(level(-4))
        board.back()
        self.assertEqual(board.move(steep(3)), ())
        board = Board(LINE_AND_CIRCLE, level(6), way="near")
        board.move(level(-4))
        self.assertEqual(board.move(steep(3)), ("y",))

    def test_no_back(self):
        for way in WAYS:
            board = Board(LINE_AND_CIRCLE, level(3), way=way)
            board.move(steep(-3))
            board.back()
            for _ in range(2):
                ahead = seen(board)
                with self.assertRaises(errors.NoBack) as caught:
                    board.back()
                self.assertIs(type(caught.exception), errors.NoBack)
                self.assertIsInstance(caught.exception, errors.PointError)
                self.assertEqual(seen(board), ahead)
                self.assertEqual(board, Board(LINE_AND_CIRCLE, level(3), way=way))
            self.assertEqual(board.move(steep(-3)), ("x",) if way == "near" else ())

    def test_eighty_deeds(self):
        board = Board(LINE_AND_CIRCLE, level(3), way="near")
        for _ in range(40):
            board.move(steep(-3))
            board.move(level(3))
        self.assertEqual(len(board), 80)
        for _ in range(80):
            board.back()
        self.assertEqual(board, Board(LINE_AND_CIRCLE, level(3), way="near"))


class Alike(unittest.TestCase):
    def make(self, sketch=LINE_AND_CIRCLE, first=level(3), hands=(steep(-3),), choices=(), way="near"):
        board = Board(sketch, first, way=way, choices=choices)
        for hand in hands:
            board.move(hand)
        return board

    def test_one_thing_otherwise(self):
        board = self.make()
        self.assertTrue(board == self.make())
        self.assertFalse(board != self.make())
        called = tuple(("middle", "n", "x", "o") if step[0] == "middle" else step for step in LINE_AND_CIRCLE)
        others = [
            self.make(sketch=called), self.make(sketch=LINE_AND_CIRCLE[:-1]), self.make(way="signs"),
            self.make(hands=(steep(-4),)), self.make(choices=(("y", 0),)), self.make(hands=()),
            self.make(hands=(steep(-3), steep(-3))), self.make(first=level("7/2")), self.make(hands=(level(0), steep(-3))),
            self.make(choices=(("x", 1),)), None, (), "board", 0, [board],
        ]
        for other in others:
            self.assertFalse(board == other)
            self.assertFalse(other == board)
            self.assertTrue(board != other)

    def test_choices_alone(self):
        # The same hands, of which by one choice the past differs, by another one what is now.
        one = self.make(choices=(("x", 0),), hands=(level(6),))
        other = self.make(choices=(("x", 1),), hands=(level(6),))
        self.assertFalse(one == other)
        one, other = self.make(choices=(("x", 0),)), self.make(choices=(("x", 1),))
        self.assertEqual(one.things(), self.make().things())
        self.assertFalse(one == other)

    def test_things_and_last_places_are_not_looked_at(self):
        # Behind a while without meets both stand alike, though the crosses stood last at different places.
        board = self.make(first=level(6), hands=(), choices=(("x", 0),))
        other = Board(LINE_AND_CIRCLE, level(6), choices=(("x", 0), ("y", 1)), way="near")
        self.assertTrue(board == other)
        self.assertTrue(self.make(choices=(("x", 0), ("y", 1))) == self.make())

    def test_one_past_move_otherwise(self):
        for at in range(3):
            hands = [steep(3), level(1), level(2), steep(4)]
            board = self.make(hands=hands)
            hands[at] = level("1/3")
            self.assertFalse(board == self.make(hands=hands))
        board, other = self.make(hands=(level(2), level(1))), self.make(hands=(level(1), level(1)))
        self.assertEqual(seen(board), seen(other))
        self.assertFalse(board == other)
        board.back(), other.back()
        board.back(), other.back()
        self.assertTrue(board == other)


class Copies(unittest.TestCase):
    def test_deeds_at_either_leave_the_other(self):
        for seed, sketch in enumerate(WITH_CROSSES + SKETCHES + (LINE_AND_CIRCLE, ON_A_CROSS)):
            chance = random.Random(seed)
            for way in WAYS:
                board = Board(sketch, any_hand(chance, numbers_for(sketch)), way=way)
                for _ in range(3):
                    board.move(any_hand(chance, numbers_for(sketch)))
                other = board.copy()
                self.assertIs(type(other), Board)
                self.assertIsNot(other, board)
                self.assertTrue(other == board)
                for one, still in ((board, other), (other, board)):
                    ahead = seen(still)
                    one.move(any_hand(chance, numbers_for(sketch)))
                    self.assertEqual(seen(still), ahead)
                    self.assertFalse(one == still)
                    one.back()
                    one.back()
                    self.assertEqual(seen(still), ahead)
                    one.move(still.hand())
                    one.back()
                    while len(one) < 3:
                        one.move(any_hand(chance, numbers_for(sketch)))
                    self.assertEqual(seen(still), ahead)

    def test_all_to_go_back_and_the_last_places_too(self):
        board = Board(LINE_AND_CIRCLE, level(-4), way="near")
        board.move(level(7))
        other = board.copy()
        self.assertEqual(other.move(steep(3)), ("y",))
        self.assertEqual(board.move(steep(-3)), ("y",))
        other.back()
        other.back()
        self.assertEqual(other.hand(), level(-4))
        with self.assertRaises(errors.NoBack):
            other.back()
        self.assertEqual(len(board), 2)

    def test_two_boards_of_the_same_share_nothing(self):
        one, other = (Board(LINE_AND_CIRCLE, level(3), way="near") for _ in range(2))
        one.move(steep(-3))
        self.assertEqual(seen(other), seen(Board(LINE_AND_CIRCLE, level(3), way="near")))
        with self.assertRaises(errors.NoBack):
            other.back()
