"""Trees, promises [2] and [2.1]."""

import unittest

from pasthall.trees import is_tree
from tests.helpers import BAD_TREES, PATHS, check_own, full_tree, own_lines

# All signs that may be handed in and are no letter from a to z.
OTHER_SIGNS = [chr(number) for number in [9, 10] + list(range(32, 127))
               if chr(number) != "%" and not 97 <= number <= 122]


class IsTree(unittest.TestCase):
    def test_how_many_files(self):
        for many in range(9):
            self.assertIs(is_tree({path: [] for path in PATHS[:many]}), True, many)
            self.assertIs(is_tree({path: ["a", "b"] for path in PATHS[:many]}), True, many)
        for many in (9, 10):
            self.assertIs(is_tree({path: [] for path in PATHS[:many]}), False, many)
        self.assertIs(is_tree(full_tree()), True)

    def test_the_length_of_paths(self):
        self.assertIs(is_tree({"": []}), False)
        for many in range(1, 9):
            self.assertIs(is_tree({"z" * many: []}), True, many)
        for many in (9, 10, 20):
            self.assertIs(is_tree({"a" * many: []}), False, many)

    def test_each_letter(self):
        for letter in "abcdefghijklmnopqrstuvwxyz":
            self.assertIs(is_tree({letter: []}), True, letter)

    def test_each_other_sign(self):
        for sign in OTHER_SIGNS:
            for path in (sign, "a" + sign, sign + "a", "a" + sign + "z", "abcdefg" + sign):
                self.assertIs(is_tree({path: []}), False, repr(path))

    def test_rows(self):
        for row in ([], [""], own_lines(40), ["abcdefgh"], [""] * 40):
            self.assertIs(is_tree({"a": row}), True)
            self.assertIs(is_tree({"a": [], "b": row, "c": []}), True)
        for row in (own_lines(41), [""] * 41, ["A"], ["a", "b c"], ["abcdefghi"], ["a\n"], ["a1"]):
            self.assertIs(is_tree({"a": row}), False)
            self.assertIs(is_tree({"a": [], "b": row, "c": []}), False)

    def test_one_bad_file_among_eight(self):
        for path in PATHS[:8]:
            tree = full_tree()
            tree[path] = ["", "A"]
            self.assertIs(is_tree(tree), False, path)
            del tree[path]
            self.assertIs(is_tree(tree), True)
            tree["A"] = []
            self.assertIs(is_tree(tree), False, path)

    def test_what_is_none(self):
        for tree in BAD_TREES:
            self.assertIs(is_tree(tree), False, tree)

    def test_nothing_is_changed(self):
        for tree in ({}, {"a": ["b"], "c": []}, {"A": ["b"]}):
            check_own(self, is_tree, tree)


if __name__ == "__main__":
    unittest.main()
