import unittest

from helper import OWN
from lieask.errors import LieError


class Errors(unittest.TestCase):
    def test_any_refusal_stands_straight_under_value_error(self):
        self.assertEqual(LieError.__bases__, (ValueError,))

    def test_each_refusal_stands_straight_under_lie_error(self):
        for own in OWN:
            self.assertEqual(own.__bases__, (LieError,), own)

    def test_the_classes_are_five_under_their_names(self):
        names = [own.__name__ for own in OWN]
        self.assertEqual(names, ["NoLies", "NoMarks", "NoQuestion", "NoMany", "NoNote"])
        self.assertEqual(len(set(OWN)), 5)

    def test_none_is_another(self):
        for own in OWN:
            self.assertEqual([other for other in OWN if issubclass(own, other)], [own])


if __name__ == "__main__":
    unittest.main()
