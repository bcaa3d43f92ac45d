"""The refusals, promise [3]."""

import unittest

from pasthall import errors

NAMES = ("BadRow", "BadEdit", "NoFit", "BadTree", "BadChange", "BadWeb", "NoVersion", "NoFile", "Clash",
         "BadPaper", "NoAsking", "BadText", "NoName", "NameTaken", "Nothing")


class Refusals(unittest.TestCase):
    def test_past_error_stands_straight_under_value_error(self):
        self.assertEqual(errors.PastError.__bases__, (ValueError,))

    def test_each_stands_straight_under_past_error(self):
        for name in NAMES:
            with self.subTest(name):
                self.assertEqual(getattr(errors, name).__bases__, (errors.PastError,))

    def test_none_stands_under_another(self):
        for name in NAMES:
            for other in NAMES:
                if name != other:
                    with self.subTest(name=name, other=other):
                        self.assertFalse(issubclass(getattr(errors, name), getattr(errors, other)))

    def test_each_bears_its_name(self):
        for name in NAMES:
            self.assertEqual(getattr(errors, name).__name__, name)


class ClashPaths(unittest.TestCase):
    def test_a_clash_has_its_paths(self):
        self.assertEqual(errors.Clash(["a", "b", "c"]).paths, ["a", "b", "c"])

    def test_its_paths_are_a_rising_list(self):
        paths = errors.Clash(["c", "a", "b"]).paths
        self.assertIs(type(paths), list)
        self.assertEqual(paths, ["a", "b", "c"])

    def test_a_clash_without_paths_has_an_empty_list(self):
        for clash in (errors.Clash(), errors.Clash([])):
            self.assertEqual(clash.paths, [])
            self.assertIs(type(clash.paths), list)

    def test_its_paths_are_its_own(self):
        handed = ["a", "b"]
        clash = errors.Clash(handed)
        handed.append("c")
        self.assertEqual(clash.paths, ["a", "b"])
        clash.paths.append("d")
        self.assertEqual(handed, ["a", "b", "c"])
        errors.Clash().paths.append("a")
        self.assertEqual(errors.Clash().paths, [])

    def test_no_two_clashes_share_a_list(self):
        for one, other in ((errors.Clash(), errors.Clash()), (errors.Clash(["a"]), errors.Clash(["a"]))):
            before = list(other.paths)
            one.paths.append("b")
            self.assertEqual(other.paths, before)

    def test_a_clash_that_is_raised_has_its_paths(self):
        with self.assertRaises(errors.Clash) as caught:
            raise errors.Clash(["b", "a"])
        self.assertEqual(caught.exception.paths, ["a", "b"])


if __name__ == "__main__":
    unittest.main()
