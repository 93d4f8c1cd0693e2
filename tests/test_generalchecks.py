import copy
import random
import unittest

from pointhouse.general import ask, rows_of
from pointhouse.generalchecks import rows_hold
from pointhouse.sums import is_sum, times
from tests.general_anew import chance_drawings, first_refused, needed_anew, rows_hold_anew, unknowns_of
from tests.helper import NO_WHOLES, exact, lines_as_sketch, sayings_of, sort_made
from tests.test_general import FAILING, HEAVY, HEAVY_ENDS, HOLDING, in_bounds, plain_sketches

# A point of each word but the crosses, lines, circles; its sayings hold.
SKETCH = lines_as_sketch("free a", "free b", "free c", "line l a b", "circle k a c", "foot f c l", "mirror g c l",
                         "middle h c g", "on p l")
SAYING = ("row", "f", "h", "a")
OF_A_CIRCLE = ("at", "g", "k")


def sum_of(unknowns, **worths):
    """A sum by what its powers, as figures behind a letter, are worth: n01=3 is three times the second unknown."""
    return tuple(sorted((tuple(int(figure) for figure in name[1:]), many) for name, many in worths.items()))


class Asked(unittest.TestCase):
    def hold(self, sketch, saying, thing):
        ahead = copy.deepcopy((sketch, saying))
        told = rows_hold(sketch, saying, thing)
        self.assertIs(type(told), bool)
        self.assertIs(rows_hold(thing=thing, saying=saying, sketch=sketch), told)
        self.assertEqual((sketch, saying), ahead)
        return told

    def agree(self, sketch, saying, rows):
        """What is told is what the words of point 13 say."""
        told = self.hold(sketch, saying, rows)
        self.assertEqual(told, rows_hold_anew(sketch, saying, rows), (saying, rows))
        return told


def is_right_by_form(sketch, saying, rows):
    numbers = needed_anew(sketch, saying[1:])
    if type(rows) is not tuple or [type(pair) for pair in rows] != [tuple] * len(numbers):
        return False
    for number, pair in zip(numbers, rows):
        if len(pair) != 2 or type(pair[0]) is not int or pair[0] != number or type(pair[1]) is not tuple:
            return False
        if len(pair[1]) != (0 if sort_made(sketch[number]) == "circle" else 3):
            return False
        if not all(is_sum(len(unknowns_of(sketch)), part) for part in pair[1]):
            return False
    return True


def all_times(rows, factors):
    """Each row times a sum of its own, of a circle as it is."""
    return tuple((number, tuple(times(part, factor) for part in row)) for (number, row), factor in zip(rows, factors))


class LetBy(Asked):
    def test_what_is_told(self):
        for rows, sayings in HOLDING:
            sketch = lines_as_sketch(*rows)
            for saying in sayings:
                self.assertTrue(self.agree(sketch, saying, ask(sketch, saying)[1]))
                self.assertTrue(self.agree(sketch, saying, rows_of(sketch, saying[1:])))
                self.assertTrue(self.agree(sketch, saying, rows_of(sketch, saying[:0:-1])))

    def test_rows_of_another_form(self):
        for rows, sayings in HOLDING:
            sketch = lines_as_sketch(*rows)
            unknowns = len(unknowns_of(sketch))
            chance = random.Random(5)
            ones = [tuple(chance.randint(0, 2) for _ in range(unknowns)) for _ in range(40)]
            factors = [(((0,) * unknowns, -3),)] + [((powers, chance.choice((1, -2, 7))),) for powers in ones]
            if unknowns:
                factors += [tuple(sorted({(0,) * unknowns: 5, powers: -1}.items())) for powers in ones if any(powers)]
            for saying in sayings:
                told = ask(sketch, saying)[1]
                for _ in range(4):
                    other = all_times(told, [chance.choice(factors) for _ in told])
                    self.assertTrue(self.agree(sketch, saying, other))

    def test_rows_written_by_hand(self):
        # m is the middle of a and c, and of its row the same is told by quotients of many forms.
        sketch = lines_as_sketch("free a", "free b", "free c", "middle m a c", "line l a m")
        one, x, y = sum_of(2, n00=1), sum_of(2, n10=1), sum_of(2, n01=1)
        two, square = sum_of(2, n00=2), sum_of(2, n20=2, n02=2)
        ahead = ((0, ((), (), one)), (2, (x, y, one)))
        for middle in ((x, y, two), (sum_of(2, n10=-3), sum_of(2, n01=-3), sum_of(2, n00=-6)),
                       (sum_of(2, n30=1, n12=1), sum_of(2, n21=1, n03=1), square),
                       (sum_of(2, n20=1, n10=1), sum_of(2, n11=1, n01=1), sum_of(2, n10=2, n00=2))):
            for line in ((y, sum_of(2, n10=-1), ()), (sum_of(2, n11=2), sum_of(2, n20=-2), ())):
                self.assertTrue(self.agree(sketch, ("at", "c", "l"), ahead + ((3, middle), (4, line))))
                self.assertTrue(self.agree(sketch, ("row", "a", "c", "m"), ahead + ((3, middle),)))
            self.assertTrue(self.agree(sketch, ("alike", "a", "m", "m", "c"), ahead + ((3, middle),)))
        wrong = [
            (3, (x, y, one)), (3, (x, x, two)), (3, (y, x, two)), (3, (x, y, square)), (3, (x, y, ())), (3, ((), (), ())),
            (3, ((), (), two)), (3, (sum_of(2, n10=-1), y, two)), (3, (x, y, sum_of(2, n00=-2))), (3, ()),
        ]
        for row in wrong:
            self.assertFalse(self.hold(sketch, ("row", "a", "c", "m"), ahead + (row,)), row)
        for line in (((), (), ()), ((), (), one), (x, y, ()), (y, x, ()), (y, sum_of(2, n10=-1), one), (y, (), ()), ((), x, ())):
            self.assertFalse(self.agree(sketch, ("at", "c", "l"), ahead + ((3, (x, y, two)), (4, line))), line)

    def test_great_factors(self):
        sketch, saying = SKETCH, SAYING
        told = ask(sketch, saying)[1]
        many = len(unknowns_of(sketch))
        great = (((10 ** 59,) * many, 10 ** 59 - 1),)
        self.assertTrue(self.agree(sketch, saying, all_times(told, [great] * len(told))))
        long = tuple(((a, b, 0), a + b + 1) for a in range(40) for b in range(40))
        rows = told[:-1] + all_times(told[-1:], [long])
        self.assertTrue(self.hold(sketch, saying, rows))
        number, (x, y, w) = rows[-1]
        self.assertFalse(self.hold(sketch, saying, rows[:-1] + ((number, (x[:-1], y, w)),)))


class NotLetBy(Asked):
    def test_one_thing_otherwise(self):
        met = 0
        for sketch, saying in ((SKETCH, SAYING), (SKETCH, OF_A_CIRCLE), (SKETCH, ("at", "p", "l"))):
            told = ask(sketch, saying)[1]
            self.assertTrue(self.agree(sketch, saying, told))
            for other in changed(told):
                wanted = is_right_by_form(sketch, saying, other) and rows_hold_anew(sketch, saying, other)
                self.assertIs(self.hold(sketch, saying, other), wanted, other)
                met += not wanted
        self.assertGreater(met, 300)

    def test_rows_by_numbers_alone(self):
        # Any number or power otherwise, and rows are held to the words of point 13.
        met = {True: 0, False: 0}
        for rows, sayings in HOLDING[:9]:
            sketch = lines_as_sketch(*rows)
            for saying in sayings[:2]:
                told = ask(sketch, saying)[1]
                chance = random.Random(3)
                for _ in range(25):
                    at = chance.randrange(len(told))
                    number, row = told[at]
                    if row:
                        row = list(row)
                        k = chance.randrange(3)
                        row[k] = tampered(chance, row[k], len(unknowns_of(sketch)))
                        met[self.agree(sketch, saying, told[:at] + ((number, tuple(row)),) + told[at + 1:])] += 1
        self.assertGreater(met[False], 200)

    def test_other_sayings(self):
        for rows, sayings in HOLDING + FAILING:
            sketch = lines_as_sketch(*rows)
            told = [rows_of(sketch, saying[1:]) for saying in sayings]
            for saying in sayings:
                for other in told:
                    self.agree(sketch, saying, other)
        # The same steps, so the same rows, of which one saying holds and another one doesn't.
        for saying, holding in ((("row", "a", "f", "b"), True), (("row", "f", "h", "b"), True), (("alike", "a", "f", "h", "b"), False),
                                (("same", "h", "b"), False), (("upright", "h", "c", "b", "f"), True)):
            self.assertIs(self.hold(SKETCH, saying, rows_of(SKETCH, ("h", "f"))), holding and "h" in saying)

    def test_sayings_that_fail(self):
        for rows, sayings in FAILING:
            sketch = lines_as_sketch(*rows)
            for saying in sayings:
                self.assertFalse(self.agree(sketch, saying, rows_of(sketch, saying[1:])))

    def test_crosses_and_steps_never_done(self):
        sketch = lines_as_sketch("free a", "free b", "middle m a b", "middle n b a", "line l m n", "line o a b", "circle j a b",
                                 "cross y o j 0", "circle k m n", "along u m o", "meet x o u")
        point, line = ((), (), (((), 1),)), ((), (((), 1),), ())
        for saying in (("same", "y", "y"), ("at", "m", "l"), ("at", "a", "k"), ("at", "m", "k"), ("same", "x", "x"),
                       ("at", "y", "o"), ("row", "x", "a", "b")):
            numbers = needed_anew(sketch, saying[1:])
            for a, b in ((point, line), (point, point), (line, line)):
                rows = tuple((number, {"circle": (), "line": b, "point": a}[sort_made(sketch[number])]) for number in numbers)
                self.assertFalse(self.hold(sketch, saying, rows))
        self.assertTrue(self.hold(sketch, ("same", "m", "n"), rows_of(sketch, ("m", "n"))))
        # A step that the saying doesn't need may be such.
        self.assertTrue(self.hold(sketch, ("at", "m", "u"), rows_of(sketch, ("u",))))

    def test_heavy_things_that_are_refused(self):
        one = (((0, 0, 0, 0), 1),)
        forms = {"circle": (), "line": (one, one, one), "point": (one, one, one)}
        for last, _ in HEAVY_ENDS:
            sketch = lines_as_sketch(*HEAVY, *last)
            saying = ("same", "x", "x") if sort_made(sketch[-1]) == "point" else ("at", "a", "x")
            numbers = needed_anew(sketch, saying[1:])
            self.assertFalse(self.hold(sketch, saying, tuple((k, forms[sort_made(sketch[k])]) for k in numbers)))

    def test_other_kinds(self):
        told = ask(SKETCH, SAYING)[1]
        for thing in NO_WHOLES + (0, -1, 10 ** 59, "rows", ("holds", told), (told,), list(told), dict(told), [[]], {"a": told},
                                  tuple(list(pair) for pair in told), tuple((number, list(row)) for number, row in told),
                                  tuple(row for _, row in told), tuple(number for number, _ in told), (((0, 1),),) * len(told)):
            for saying in (SAYING, OF_A_CIRCLE, ("same", "a", "a")):
                self.assertFalse(self.hold(SKETCH, saying, thing))

    def test_deep_and_long_ones(self):
        told = ask(SKETCH, SAYING)[1]
        deep = told
        for _ in range(24):
            deep = (deep,)
        self.assertFalse(self.hold(SKETCH, SAYING, deep))
        nested = ()
        for _ in range(25):
            nested = (nested, 1)
        for at in range(len(told)):
            for wrong in ((told[at][0], nested), (nested, told[at][1]), (told[at][0], (nested,) * 3)):
                self.assertFalse(self.hold(SKETCH, SAYING, told[:at] + (wrong,) + told[at + 1:]))
        self.assertFalse(self.hold(SKETCH, SAYING, told * 300))
        self.assertFalse(self.hold(SKETCH, SAYING, ((),) * 59000))
        long = tuple(((0, 0, at), 10 ** 59) for at in range(8000))
        self.assertFalse(self.hold(SKETCH, SAYING, told[:-1] + ((told[-1][0], (long, told[-1][1][1], told[-1][1][2])),)))
        powers = tuple(((0, at, 10 ** 59 + at), 10 ** 59 - at) for at in range(3000))
        self.assertFalse(self.hold(SKETCH, SAYING, told[:-1] + ((told[-1][0], (powers, powers, powers)),)))


class Anew(Asked):
    def test_sketches_of_every_word(self):
        met = {True: 0, False: 0}
        for chance, sketch in plain_sketches(8700, 8850):
            if not any(sort_made(step) == "point" for step in sketch):
                continue
            drawings = chance_drawings(chance, sketch)
            for saying in sayings_of(sketch, chance):
                if first_refused(drawings, sketch, saying[1:]) or not in_bounds(sketch, saying):
                    continue
                rows = rows_of(sketch, saying[1:])
                met[self.agree(sketch, saying, rows)] += 1
                at = chance.randrange(len(rows))
                number, row = rows[at]
                if row:
                    k = chance.randrange(3)
                    row = row[:k] + (tampered(chance, row[k], len(unknowns_of(sketch))),) + row[k + 1:]
                    met[self.agree(sketch, saying, rows[:at] + ((number, row),) + rows[at + 1:])] += 1
        self.assertGreater(min(met.values()), 100, met)


def tampered(chance, part, unknowns):
    """A sum with a number or a power otherwise, one pair more or fewer."""
    found = dict(part)
    powers = chance.choice(list(found) or [(0,) * unknowns])
    way = chance.randrange(4)
    if way == 0:
        found[powers] = -found.get(powers, 1)
    elif way == 1:
        found[powers] = found.get(powers, 0) + chance.choice((1, 2, -5))
    elif way == 2 and unknowns:
        many = found.pop(powers, 1)
        at = chance.randrange(unknowns)
        powers = powers[:at] + (powers[at] + 1,) + powers[at + 1:]
        found[powers] = found.get(powers, 0) + many
    else:
        found.pop(powers, None)
    return tuple(sorted((powers, many) for powers, many in found.items() if many))


def changed(rows):
    """Rows of three unknowns with one thing otherwise, at any place."""
    one, other = (((0, 0, 0), 1),), (((0, 0, 0), -2), ((1, 2, 3), 4))
    for at, (number, row) in enumerate(rows):
        ahead, behind = rows[:at], rows[at + 1:]
        yield ahead + behind
        yield ahead + (rows[at],) + rows[at:]
        for to in range(at):
            yield rows[:to] + (rows[at],) + rows[to + 1:at] + (rows[to],) + behind
        for wrong in NO_WHOLES + (number + 1, number - 1, -number - 1, str(number)):
            if wrong == number and wrong is not True and wrong is not False:
                continue
            yield ahead + ((wrong, row),) + behind
        for wrong in NO_WHOLES + ((one,), (one, one), (one, one, one, one), [one, one, one], one, 0, "row"):
            if wrong != () or type(wrong) is not tuple or row != ():
                yield ahead + ((number, wrong),) + behind
        for pair in ((number,), (number, row, row), [number, row], (row, number), {number: row}, number, row):
            yield ahead + (pair,) + behind
        if row == ():
            yield ahead + ((number, (one, one, one)),) + behind
            continue
        for k in range(3):
            for wrong in (list(row[k]), row[k] + row[k][-1:] if row[k] else None, row[k] + (((9, 9, 9), True),), None, 0, True,
                          row[k][::-1] if len(row[k]) > 1 else None, row[k] + (((9, 9, 9), 0),), row[k] + (((9, 9), 1),),
                          row[k] + (((9, 9, -1), 1),), row[k] + (((9, 9, True), 1),), row[k] + (((9, 9, exact(1)), 1),),
                          row[k] + ([(9, 9, 9), 1],), row[k] + (((9, 9, 9), 1),), other):
                yield ahead + ((number, row[:k] + (wrong,) + row[k + 1:]),) + behind
        yield ahead + ((number, ((), (), ())),) + behind
        yield ahead + ((number, ((), (), one) if row[0] or row[1] else (one, one, ())),) + behind
