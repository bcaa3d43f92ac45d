"""Rows, promises [2] and [1.1]."""

import unittest

from pasthall.rows import is_row
from tests.helpers import own_lines

# All signs that may be handed in and are no letter from a to z.
OTHER_SIGNS = [chr(number) for number in [9, 10] + list(range(32, 127))
               if chr(number) != "%" and not 97 <= number <= 122]


class IsRow(unittest.TestCase):
    def test_no_lines(self):
        self.assertIs(is_row([]), True)

    def test_forty_lines_and_forty_one(self):
        for many in (1, 2, 8, 9, 39, 40):
            self.assertIs(is_row(own_lines(many)), True, many)
            self.assertIs(is_row([""] * many), True, many)
        for many in (41, 42, 60):
            self.assertIs(is_row(own_lines(many)), False, many)
            self.assertIs(is_row([""] * many), False, many)

    def test_the_length_of_lines(self):
        for many in range(9):
            self.assertIs(is_row(["z" * many]), True, many)
        for many in (9, 10, 20):
            self.assertIs(is_row(["a" * many]), False, many)

    def test_each_letter(self):
        self.assertIs(is_row(["abcdefgh", "ijklmnop", "qrstuvwx", "yz", ""]), True)
        for letter in "abcdefghijklmnopqrstuvwxyz":
            self.assertIs(is_row([letter]), True, letter)

    def test_each_other_sign(self):
        for sign in OTHER_SIGNS:
            for line in (sign, "a" + sign, sign + "a", "a" + sign + "z", "abcdefg" + sign):
                self.assertIs(is_row([line]), False, repr(line))

    def test_one_bad_line_among_good_ones(self):
        for place in range(40):
            row = own_lines(40)
            row[place] = "A"
            self.assertIs(is_row(row), False, place)
            row[place] = "abcdefghi"
            self.assertIs(is_row(row), False, place)

    def test_lines_that_stand_twice(self):
        self.assertIs(is_row(["a", "a", "", "", "a"]), True)

    def test_nothing_is_changed(self):
        for row in (own_lines(40), own_lines(41), ["A", "b"], []):
            before = list(row)
            is_row(row)
            self.assertEqual(row, before)


if __name__ == "__main__":
    unittest.main()
