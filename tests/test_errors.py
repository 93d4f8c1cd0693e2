import unittest

from pointhouse import errors

# Each class with the one that it stands straight under and its fields; None: it is made with a text.
REFUSALS = {
    "NoText": ("PointError", ("row",)),
    "NoExact": ("PointError", None),
    "NoLine": ("PointError", None),
    "NoRow": ("PointError", None),
    "NoBack": ("PointError", None),
    "TwoRoots": ("PointError", ("one", "other")),
    "NotPlain": ("PointError", ("number",)),
    "NeverDone": ("PointError", ("number",)),
    "NoDeed": ("PointError", ("thing",)),
    "NoFit": ("PointError", ("thing",)),
    "Taken": ("PointError", ("name",)),
    "Undone": ("PointError", ("number",)),
    "NoBottom": ("ZeroDivisionError", None),
    "NoWay": ("KeyError", ("way",)),
    "Missing": ("KeyError", ("name",)),
}

# What Python's own handlers catch them by.
CAUGHT_BY = {"PointError": ValueError, "ZeroDivisionError": ArithmeticError, "KeyError": LookupError}

THINGS = (0, -3, 10 ** 200, "", "a text", (), (1, ("a", None)), None, True, False, [], [1, [2]], {}, {"a": [1]})


class Refusals(unittest.TestCase):
    def test_point_error(self):
        self.assertEqual(errors.PointError.__bases__, (ValueError,))

    def test_each_stands_where_it_is_told(self):
        for name, (above, _) in REFUSALS.items():
            with self.subTest(name):
                bases = [base.__name__ for base in getattr(errors, name).__bases__]
                self.assertEqual(bases, [above])

    def test_none_stands_under_another(self):
        for name in REFUSALS:
            for other in REFUSALS:
                with self.subTest(name=name, other=other):
                    under = issubclass(getattr(errors, name), getattr(errors, other))
                    self.assertEqual(under, name == other)

    def test_just_these_stand_under_point_error(self):
        for name, (above, _) in REFUSALS.items():
            with self.subTest(name):
                kind = getattr(errors, name)
                self.assertEqual(issubclass(kind, errors.PointError), above == "PointError")
                self.assertEqual(issubclass(kind, ValueError), above == "PointError")
                self.assertEqual(issubclass(kind, KeyError), above == "KeyError")
                self.assertEqual(issubclass(kind, ZeroDivisionError), above == "ZeroDivisionError")

    def test_fields_by_place_and_by_name(self):
        for name, (_, names) in REFUSALS.items():
            for thing in THINGS:
                for other in THINGS if names and len(names) == 2 else (None,):
                    with self.subTest(name=name, thing=thing, other=other):
                        self.check_fields(getattr(errors, name), names or (), (thing, other))

    def check_fields(self, kind, names, things):
        things = things[: len(names)]
        by_name = dict(zip(names, things))
        turned = {key: by_name[key] for key in reversed(names)}
        for made in (kind(*things), kind(**by_name), kind(**turned)):
            for field, thing in by_name.items():
                self.assertIs(getattr(made, field), thing)

    def test_what_is_handed_in_is_not_changed(self):
        thing = [1, {"a": [2]}]
        errors.NoDeed(thing)
        errors.TwoRoots(thing, other=thing)
        self.assertEqual(thing, [1, {"a": [2]}])

    def test_those_of_a_text(self):
        for name, (_, names) in REFUSALS.items():
            if names is None:
                with self.subTest(name):
                    self.assertEqual(str(getattr(errors, name)("a text")), "a text")

    def test_those_of_fields_can_be_shown(self):
        for name, (_, names) in REFUSALS.items():
            for thing in (10 ** 5000, ["a"]):
                with self.subTest(name):
                    made = getattr(errors, name)(*[thing for _ in names or ()])
                    self.assertIs(type(str(made)), str)
                    self.assertIs(type(repr(made)), str)

    def test_they_are_caught_by_what_is_above(self):
        for name, (above, names) in REFUSALS.items():
            with self.subTest(name):
                kind = getattr(errors, name)
                with self.assertRaises(CAUGHT_BY[above]):
                    raise kind(*[1 for _ in names or ("a text",)])
