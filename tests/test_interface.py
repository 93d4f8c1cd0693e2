"""Names and arguments are as the interface tells them, each defined in the file under which it stands."""

import importlib
import inspect
import unittest

FUNCTIONS = {
    "exacts": {"Exact": "(top, bottom=1, *, sign=0, over=0, under=1)", "read_exact": "(text)"},
    "errors": {
        "NoText": "(row)", "TwoRoots": "(one, other)", "NotPlain": "(number)", "NeverDone": "(number)",
        "NoDeed": "(thing)", "NoFit": "(thing)", "Taken": "(name)", "Undone": "(number)", "NoWay": "(way)",
        "Missing": "(name)",
    },
    "plane": {
        "line_through": "(p, q)", "line_along": "(p, line)", "line_upright": "(p, line)", "lines_meet": "(one, other)",
        "middle_of": "(p, q)", "foot_of": "(p, line)", "mirror_of": "(p, line)", "turned": "(p, about, many)",
        "crossings": "(line, circle)",
    },
    "steps": {"is_sketch": "(thing)", "hanging": "(sketch, name)", "needed": "(sketch, names)"},
    "sketchtexts": {"show_sketch": "(sketch)", "read_sketch": "(text)"},
    "weights": {"weight_of": "(sketch, name)", "weight_in": "(sketch, saying)"},
    "drawing": {"numbers_for": "(sketch)", "is_hand": "(sketch, thing)", "drawn": "(sketch, hand)"},
    "boards": {"Board": "(sketch, hand, *, way='signs', choices=())"},
    "sums": {
        "is_sum": "(many, thing)", "added": "(one, other)", "lessened": "(one, other)", "times": "(one, other)",
        "worth_at": "(one, numbers)",
    },
    "sayings": {
        "is_saying": "(sketch, thing)", "is_so": "(sketch, hand, saying)", "is_so_by": "(sketch, things, saying)",
    },
    "general": {"rows_of": "(sketch, names)", "ask": "(sketch, saying)"},
    "generalchecks": {"rows_hold": "(sketch, saying, thing)"},
    "conditions": {"conditions": "(sketch)"},
    "rulechecks": {"paper_holds": "(sketch, saying, thing)"},
    "ruling": {"by_rules": "(sketch, saying, *, most=60)"},
    "ways": {"way_of": "(sketch, hand, going, name)", "going_at": "(sketch, hand, going, name, point)"},
    "lessons": {"is_lesson": "(thing)", "judged": "(lesson, steps)"},
    "changes": {
        "without": "(sketch, name)", "renamed": "(sketch, calls)", "hand_without": "(sketch, hand, name)",
        "rows_without": "(sketch, rows, name)", "paper_without": "(sketch, paper, name)", "paper_renamed": "(paper, calls)",
    },
    "houses": {"House": "()"},
    "desk": {"Desk": "()"},
    "findings": {"finding_holds": "(thing)"},
}
KINDS = {"errors": ("PointError", "NoExact", "NoLine", "NoRow", "NoBack", "NoBottom")}
METHODS = {
    ("exacts", "Exact"): {
        "plus": "(self, other)", "minus": "(self, other)", "times": "(self, other)", "by": "(self, other)",
        "sign_of": "(self)", "is_less": "(self, other)", "decimals": "(self, places)",
    },
    ("boards", "Board"): {
        "hand": "(self)", "things": "(self)", "choices": "(self)", "move": "(self, hand)", "back": "(self)",
        "copy": "(self)", "__len__": "(self)", "__eq__": "(self, other)",
    },
    ("houses", "House"): {
        "do": "(self, deed)", "titles": "(self, by=None)", "sketch": "(self, title)", "hand": "(self, title)", "things": "(self, title)",
        "claims": "(self, title)", "lesson": "(self, title)", "has": "(self, title)", "log": "(self)", "__len__": "(self)",
        "__eq__": "(self, other)",
    },
    ("desk", "Desk"): {"say": "(self, row)"},
}


def home(file):
    return importlib.import_module(f"pointhouse.{file}")


class Interface(unittest.TestCase):
    def test_functions_and_classes(self):
        for file, rows in FUNCTIONS.items():
            for name, told in rows.items():
                with self.subTest(file=file, name=name):
                    thing = getattr(home(file), name)
                    self.assertEqual(str(inspect.signature(thing)), told)
                    self.assertEqual(thing.__module__, f"pointhouse.{file}")

    def test_classes_made_with_a_text(self):
        for file, names in KINDS.items():
            for name in names:
                self.assertEqual(getattr(home(file), name).__module__, f"pointhouse.{file}")

    def test_methods_stand_in_the_class_itself(self):
        for (file, kind), rows in METHODS.items():
            for name, told in rows.items():
                with self.subTest(kind=kind, name=name):
                    method = vars(getattr(home(file), kind))[name]
                    self.assertEqual(str(inspect.signature(method)), told)
