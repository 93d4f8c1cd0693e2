"""What a House keeps of a sketch, ("sketch", sketch, Board, claims), and how deeds change it: each tells what is kept
then and what the deed tells, and what was kept ahead stays as it is."""

from pointhouse.boards import Board
from pointhouse.changes import hand_without, parts_renamed, renamed, without
from pointhouse.drawing import is_hand, numbers_for
from pointhouse.errors import Missing, NoFit, Taken
from pointhouse.general import ask
from pointhouse.sayings import is_saying
from pointhouse.steps import is_sketch, sorts_by_name


def kept_anew(sketch, hand):
    """A sketch is kept, drawn by a hand, with nothing claimed of it."""
    if not is_hand(sketch, hand):
        raise NoFit(hand)
    return kept_on_board(sketch, hand, (), ())


def kept_on_board(sketch, hand, choices, sayings):
    """A sketch is kept on a new Board, and what holds in general is asked of these sayings."""
    claims = tuple([(saying, ask(sketch, saying)) for saying in sayings])
    return "sketch", sketch, Board(sketch, hand, way="near", choices=choices), claims


def stepped(kept, step, numbers):
    """A step more at the end, with its own numbers of the hand."""
    _, sketch, board, claims = kept
    if step[1] in sorts_by_name(sketch):
        raise Taken(step[1])
    if not is_sketch(sketch + (step,)):
        raise NoFit(step)
    if len(numbers) != numbers_for((step,)):
        raise NoFit(numbers)
    sayings = [saying for saying, _ in claims]
    return kept_on_board(sketch + (step,), board.hand() + numbers, board.choices(), sayings), None


def put_out(kept, name):
    """The step of this name goes, with those that hang on it; told are the names that went."""
    _, sketch, board, claims = kept
    if name not in sorts_by_name(sketch):
        raise Missing(name)
    left, gone = without(sketch, name)
    choices = [(cross, number) for cross, number in board.choices() if cross not in gone]
    sayings = [saying for saying, _ in claims if not any([part in gone for part in saying[1:]])]
    return kept_on_board(left, hand_without(sketch, board.hand(), name), choices, sayings), gone


def called(kept, old, new):
    """A name is called otherwise."""
    _, sketch, board, claims = kept
    sorts = sorts_by_name(sketch)
    if old not in sorts:
        raise Missing(old)
    if new in sorts:
        raise Taken(new)
    calls = ((old, new),)
    choices = [(new if cross == old else cross, number) for cross, number in board.choices()]
    sayings = [parts_renamed(saying, calls) for saying, _ in claims]
    return kept_on_board(renamed(sketch, calls), board.hand(), choices, sayings), None


def moved(kept, hand):
    """The Board is moved; told are the names of the crosses whose choice turned."""
    sort, sketch, board, claims = kept
    if not is_hand(sketch, hand):
        raise NoFit(hand)
    other = board.copy()
    turned = other.move(hand)
    return (sort, sketch, other, claims), turned


def taken_back(kept):
    """The Board goes back."""
    sort, sketch, board, claims = kept
    other = board.copy()
    other.back()
    return (sort, sketch, other, claims), None


def claimed(kept, saying):
    """A saying is claimed, and kept once; told is whether it holds or fails."""
    sort, sketch, board, claims = kept
    if not is_saying(sketch, saying):
        raise NoFit(saying)
    told = ask(sketch, saying)
    if saying not in [other for other, _ in claims]:
        claims = (*claims, (saying, told))
    return (sort, sketch, board, claims), told[0]


# What each deed about one kept sketch does.
CHANGES = {"step": stepped, "out": put_out, "call": called, "move": moved, "back": taken_back, "claim": claimed}
