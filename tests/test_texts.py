"""[A7]: the text of a lot, and the lot of a text."""

import copy
import itertools
import unittest

from ridgespans.errors import BadText
from ridgespans.rows import lot_error
from ridgespans.texts import lot_text, parse_lot
from values import ANY_VALUES

MOST = 10 ** 30
LONG = 10 ** 999 + 12345

# Lots and their texts.
PAIRS = [
    ((1, ()), "1"),
    ((4, ()), "4"),
    ((1, ((0,),)), "1\n0"),
    ((2, ((0, None), (-1, 7))), "2\n0 .\n-1 7"),
    ((3, ((0, 2, None), (0, 0, 0), (None, 1, 3))), "3\n0 2 .\n0 0 0\n. 1 3"),
    ((2, ((5, 5), (5, 5), (0, 0), (5, 5))), "2\n5 5\n5 5\n0 0\n5 5"),
    ((4, ((None, None, None, -10),)), "4\n. . . -10"),
    ((2, ((MOST, -MOST),)), "2\n1" + "0" * 30 + " -1" + "0" * 30),
    ((1, ((12345678901234567890,), (-100,))), "1\n12345678901234567890\n-100"),
    ((1, ((7,),) * 40), "1" + "\n7" * 40),
]


class Texts(unittest.TestCase):
    def test_the_text_of_a_lot(self):
        for lot, text in PAIRS:
            with self.subTest(lot=lot):
                self.assertEqual(lot_text(lot), text)
                self.assertEqual(lot_text(lot=lot), text)

    def test_the_lot_of_a_text(self):
        for lot, text in PAIRS:
            with self.subTest(text=text):
                self.assertEqual(parse_lot(text), lot)
                self.assertEqual(parse_lot(value=text), lot)
                self.assertIsNone(lot_error(parse_lot(text)))

    def test_there_and_back(self):
        numbers = (None, -12, -1, 0, 9, 10, MOST, -MOST)
        for places in (1, 2, 3):
            rows = [row for row in itertools.product(numbers, repeat=places) if set(row) != {None}]
            for at in range(0, len(rows), 40):
                lot = (places, tuple(rows[at:at + 40]))
                self.assertEqual(parse_lot(lot_text(lot)), lot)
                self.assertEqual(lot_text(parse_lot(lot_text(lot))), lot_text(lot))

    def test_lots_that_the_package_tells_may_be_longer_and_wider(self):
        self.assertEqual(lot_text((1, ((3,),) * 100)), "1" + "\n3" * 100)
        digits = "1" + "0" * 994 + "12345"
        self.assertEqual(lot_text((2, ((LONG, -LONG),))), f"2\n{digits} -{digits}")


class BadTexts(unittest.TestCase):
    def check(self, value, line):
        for call in (lambda: parse_lot(value), lambda: parse_lot(value=value)):
            with self.subTest(value=value):
                with self.assertRaises(BadText) as caught:
                    call()
                self.assertIs(type(caught.exception.line), type(line))
                self.assertEqual(caught.exception.line, line)

    def test_no_strings(self):
        for value in [*ANY_VALUES, (1, ()), b"1", ["1"], ("1",)]:
            if not isinstance(value, str):
                ahead = copy.deepcopy(value)
                self.check(value, None)
                self.assertEqual(value, ahead)

    def test_bad_places(self):
        for line in ("", " ", "0", "5", "6", "10", "-1", "-0", "+1", "01", "1 ", " 1", "1 0", ".", "1.", "a",
                     "one", "1" * 3000, "1\r", "1\t", "\u00b9", "\u0661", "True", "None", "1_0"):
            self.check(line, 0)
            self.check(line + "\n0", 0)
            self.check(line + "\n0 0\n. .", 0)

    def test_bad_lines(self):
        for line in ("", " ", "0", "0 0 0", "0 0 ", " 0 0", "0  0", "0", "0 0\t", "0\t0", "0\r 0", ". .", "0 00",
                     "00 0", "01 0", "-01 0", "0 -0", "-0 .", "+1 0", "0 +0", "0 - 1", "- 0", "0 --1", "-. 0",
                     ".. 0", "0 1.0", "0 1e3", "0 1_0", "0 0x1", "a 0", "0,0", "0/0", "None 0", "True 0",
                     "\u0661 0", "\u00b2 0", "0\u00a00", "0 0\x0b", "0 0\x85"):
            self.check("2\n" + line, 1)
            self.check("2\n0 0\n. 1\n" + line, 3)
            self.check("2\n0 0\n" + line + "\n0 0", 2)

    def test_numbers_beyond(self):
        for word in (str(MOST + 1), str(-MOST - 1), "1" + "0" * 31, "-1" + "0" * 31, "9" * 31, "9" * 2990,
                     "-" + "9" * 2990, "1" * 6000):
            self.check("2\n0 " + word, 1)
            self.check("2\n0 0\n" + word + " .", 2)

    def test_line_feeds_and_empty_lines(self):
        self.check("", 0)
        self.check("\n", 0)
        self.check("\n1", 0)
        self.check("1\n", 1)
        self.check("1\n\n0", 1)
        self.check("1\n0\n", 2)
        self.check("1\n0\n\n0", 2)

    def test_the_first_bad_line_is_told(self):
        self.check("2\n0 0\n. .\n0\n0 0\n. .", 2)
        self.check("7\n. .\n0", 0)

    def test_behind_as_many_rows_as_may_be(self):
        self.assertEqual(len(parse_lot("1" + "\n7" * 40)[1]), 40)
        self.check("1" + "\n7" * 41, 41)
        self.check("1" + "\n7" * 60, 41)
        self.check("1" + "\n7" * 40 + "\n", 41)
        self.check("1" + "\n7" * 40 + "\n.", 41)
        self.check("1" + "\n7" * 39 + "\n." + "\n7" * 5, 40)

    def test_other_strings(self):
        for value in ("a", "lot", "(1, ())", "1,0", "x" * 3000, "\n" * 3000, "2 0 0", "2;0 0"):
            self.check(value, 0)


if __name__ == "__main__":
    unittest.main()
