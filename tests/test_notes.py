"""Point 13."""

import itertools
import unittest

from helper import ALL_LIES, all_marks, mixed_marks, refused
from lieask.errors import NoNote
from lieask.notes import read, shown

FEW = (1, 2, 3)

# All signs that a text may hold.
SIGNS = "\t\n" + "".join(chr(code) for code in range(32, 127) if chr(code) != "%")


def good_signs(lies):
    return {0: "0x", 1: "01x", 2: "012x"}[lies]


class Shown(unittest.TestCase):
    def test_written_notes(self):
        self.assertEqual(shown([0], 0), "0")
        self.assertEqual(shown([1], 0), "x")
        self.assertEqual(shown([1, 2, 0], 1), "1x0")
        self.assertEqual(shown([0, 1, 2, 3], 2), "012x")
        self.assertEqual(shown([3, 2, 1, 0, 0, 1, 2, 3], 2), "x210012x")
        self.assertEqual(shown([0] * 8, 2), "00000000")
        self.assertEqual(shown([1, 1, 1], 2), "111")
        self.assertEqual(shown([2, 2, 2], 2), "222")
        self.assertEqual(shown([2, 2, 2], 1), "xxx")

    def test_there_and_back(self):
        for lies in ALL_LIES:
            rows = mixed_marks(8, lies, 100) + [[mark] * 8 for mark in range(lies + 2)]
            for things in FEW:
                rows += all_marks(things, lies)
            for marks in rows:
                text = shown(marks, lies)
                self.assertEqual(text, "".join("x" if mark == lies + 1 else str(mark) for mark in marks))
                self.assertEqual(read(text, lies), marks)


class Read(unittest.TestCase):
    def test_written_notes(self):
        self.assertEqual(read("0", 0), [0])
        self.assertEqual(read("x", 0), [1])
        self.assertEqual(read("x", 1), [2])
        self.assertEqual(read("x", 2), [3])
        self.assertEqual(read("1x0", 1), [1, 2, 0])
        self.assertEqual(read("012x", 2), [0, 1, 2, 3])
        self.assertEqual(read("x210012x", 2), [3, 2, 1, 0, 0, 1, 2, 3])

    def test_back_and_there(self):
        for lies, size in itertools.product(ALL_LIES, range(1, 9)):
            for row in itertools.product("0x" if size > 4 else good_signs(lies), repeat=size):
                text = "".join(row)
                self.assertEqual(shown(read(text, lies), lies), text)

    def test_another_sign_at_any_place_is_refused(self):
        for lies, size in itertools.product(ALL_LIES, range(1, 9)):
            for place, sign in itertools.product(range(size), SIGNS):
                for other in good_signs(lies):
                    text = other * place + sign + other * (size - place - 1)
                    if sign in good_signs(lies):
                        self.assertEqual(len(read(text, lies)), size)
                    else:
                        refused(self, NoNote, read, text, lies)

    def test_the_signs_that_lie_near_the_good_ones(self):
        for lies in ALL_LIES:
            for text in (str(lies + 1), f"0{lies + 1}", "3", "9", "X", "0X", " ", "0 ", " 0", "+0", "-0", "-1", "_",
                         "0_0", "\t", "0\t", "\n", "0\n", "\n0", "x\n", "0.0", "0,0", "[0]", "a", "o", "O", "l"):
                refused(self, NoNote, read, text, lies)

    def test_no_sign_and_too_many_signs_are_refused(self):
        for lies in ALL_LIES:
            refused(self, NoNote, read, "", lies)
            for size in (9, 10, 16, 100, 5000):
                for sign in good_signs(lies) + "X\n":
                    refused(self, NoNote, read, sign * size, lies)
            refused(self, NoNote, read, "0" * 8 + "\n", lies)
            refused(self, NoNote, read, " " + "x" * 8, lies)


if __name__ == "__main__":
    unittest.main()
