import unittest

from pointhouse import bounds


class Bounds(unittest.TestCase):
    def test_ways(self):
        self.assertEqual(bounds.SIGNS, "signs")
        self.assertEqual(bounds.WAYS, ("signs", "near"))
        self.assertIs(type(bounds.WAYS), tuple)

    def test_rules(self):
        words = (
            "made round along upright mirror turned rowed ringed linked passed squared sided bent straight "
            "halved between kept legs sides seen rounded carried corners thales"
        )
        self.assertEqual(bounds.RULES, tuple(words.split()))
        self.assertEqual(len(bounds.RULES), 24)

    def test_rows(self):
        self.assertEqual(bounds.ROWS, 60)
        self.assertIs(type(bounds.ROWS), int)
