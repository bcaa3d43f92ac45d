"""What a version did taken back, promise [4.7], and [1] of it."""

import itertools
import unittest

from pasthall.errors import BadTree, BadWeb, Clash, NoVersion
from pasthall.histories import History
from pasthall.undoing import undone
from tests.helpers import (PATHS, chances, check_own_of_history, check_refused_of_history, dense_web, history_of,
                           outcome, own_lines, some_history, trees_by_words)

LINE = [(), (0,), (1,), (2,)]


def line_of(*trees):
    """A history of versions one behind the other, of trees or of the rows of one file."""
    return history_of(LINE, [{"a": tree.split()} if isinstance(tree, str) else tree for tree in trees])


class Undone(unittest.TestCase):
    def test_lines_put_go_again(self):
        history = line_of("a b c", "a x b c", "a x b c d", "a x b c d e")
        self.assertEqual(undone(history, 3, 1, 0), {"a": ["a", "b", "c", "d", "e"]})
        self.assertEqual(undone(history, 2, 1, 0), {"a": ["a", "b", "c", "d"]})
        self.assertEqual(undone(history, 3, 3, 2), {"a": ["a", "x", "b", "c", "d"]})

    def test_lines_taken_come_again(self):
        history = line_of("a b c d", "a c d", "a c y", "z a c y")
        self.assertEqual(undone(history, 3, 1, 0), {"a": ["z", "a", "b", "c", "y"]})

    def test_files_put_and_taken(self):
        history = line_of({"a": ["a"], "b": []}, {"b": [], "c": ["c"]}, {"b": ["b"], "c": ["c"]}, {"c": ["c"], "d": []})
        self.assertEqual(undone(history, 3, 1, 0), {"a": ["a"], "d": []})
        self.assertEqual(undone(history, 2, 1, 0), {"a": ["a"], "b": ["b"]})

    def test_what_the_head_has_taken_back_already(self):
        history = line_of("a b", "a c", "a b", "a b d")
        self.assertEqual(undone(history, 2, 1, 0), {"a": ["a", "b"]})
        self.assertEqual(undone(history, 0, 1, 0), {"a": ["a", "b"]})

    def test_clash(self):
        # The line that 1 put was changed later.
        history = line_of("a b", "a c", "a d", "a e f")
        for head in (2, 3):
            self.assertEqual(outcome(undone, history, head, 1, 0), ("Clash", ["a"]))
        check_refused_of_history(self, Clash, undone, history, 3, 1, 0)
        history = line_of({"a": ["a"], "b": ["b"], "c": []}, {"a": ["b"], "b": ["c"]}, {"a": ["b"]},
                          {"a": ["c"], "b": ["d"], "c": ["c"]})
        self.assertEqual(outcome(undone, history, 3, 1, 0), ("Clash", ["a", "b", "c"]))

    def test_a_row_of_more_than_forty_lines_clashes(self):
        base = own_lines(40)
        history = line_of({"a": base}, {"a": base[5:]}, {"a": base[5:] + ["z"]}, {})
        self.assertEqual(outcome(undone, history, 2, 1, 0), ("Clash", ["a"]))

    def test_too_many_files(self):
        history = line_of({path: [] for path in PATHS[:8]}, {path: [] for path in PATHS[:7]},
                          {path: [] for path in PATHS[:7] + PATHS[8:9]}, {path: [] for path in PATHS[:6] + PATHS[8:9]})
        check_refused_of_history(self, BadTree, undone, history, 2, 1, 0)
        self.assertEqual(undone(history, 3, 1, 0), {path: [] for path in PATHS[:6] + PATHS[7:9]})

    def test_each_elder_of_a_merge(self):
        history = history_of([(), (0,), (0,), (1, 2), (3,)],
                             [{"a": row.split()} for row in ("a b c", "x b c", "a b y", "x b y", "x b y z")])
        self.assertEqual(undone(history, 3, 3, 1), {"a": ["x", "b", "c"]})
        self.assertEqual(undone(history, 3, 3, 2), {"a": ["a", "b", "y"]})
        self.assertEqual(undone(history, 4, 3, 2), {"a": ["a", "b", "y", "z"]})
        self.assertEqual(undone(history, 4, 1, 0), {"a": ["a", "b", "y", "z"]})

    def test_any_version_may_be_the_head(self):
        # Also one above the version, and one that is neither above nor below it.
        history = history_of([(), (0,), (), (0,)], [{"a": row.split()} for row in ("a b", "a b c", "a b d", "x a b")])
        self.assertEqual(undone(history, 0, 1, 0), {"a": ["a", "b"]})
        self.assertEqual(undone(history, 3, 1, 0), {"a": ["x", "a", "b"]})
        self.assertEqual(outcome(undone, history, 2, 1, 0), ("Clash", ["a"]))

    def test_from_the_version_itself_it_is_the_elders_tree(self):
        for chance in chances(66, 40):
            history = some_history(chance, 12)
            for version, elders in enumerate(history.web()):
                for elder in elders:
                    self.assertEqual(undone(history, version, version, elder), history.tree(elder))

    def test_by_chance(self):
        outcomes = {}
        for chance in chances(67, 50):
            history = some_history(chance, 12)
            for version, elders in enumerate(history.web()):
                for head, elder in itertools.product(range(12), elders):
                    trees = [history.tree(number) for number in (version, head, elder)]
                    expected = trees_by_words(*trees)
                    self.assertEqual(outcome(undone, history, head, version, elder), expected)
                    outcomes[expected[0]] = outcomes.get(expected[0], 0) + 1
        self.assertGreater(outcomes["told"], outcomes["Clash"])


class Refused(unittest.TestCase):
    def test_a_history_without_versions(self):
        for numbers in itertools.product((-1, 0, 1), repeat=3):
            check_refused_of_history(self, BadWeb, undone, History(), *numbers)

    def test_what_is_no_version(self):
        history = history_of(dense_web(5), [{"a": [line]} for line in ("a", "b", "c", "d", "e")])
        for bad in (-1, -4, -5, -6, 5, 6, 1000):
            check_refused_of_history(self, NoVersion, undone, history, bad, 3, 2)
            check_refused_of_history(self, NoVersion, undone, history, 4, bad, 2)
            check_refused_of_history(self, NoVersion, undone, history, 4, 3, bad)
            check_refused_of_history(self, NoVersion, undone, history, bad, bad, bad)

    def test_an_elder_that_is_none_of_the_versions(self):
        web = [(), (0,), (1,), (0,), (2, 3)]
        history = history_of(web, [{"a": [line]} for line in ("a", "b", "c", "d", "e")])
        for head, version, elder in itertools.product(range(5), repeat=3):
            if elder not in web[version]:
                check_refused_of_history(self, NoVersion, undone, history, head, version, elder)
            else:
                self.assertIn(outcome(undone, history, head, version, elder)[0], ("told", "Clash"))

    def test_no_version_ahead_of_a_clash(self):
        history = line_of("a", "b", "c", "d")
        self.assertEqual(outcome(undone, history, 3, 1, 0)[0], "Clash")
        for numbers in ((4, 1, 0), (3, 2, 0), (3, 1, 1), (3, 0, 0), (3, 0, -1)):
            check_refused_of_history(self, NoVersion, undone, history, *numbers)


class Own(unittest.TestCase):
    def test_what_is_told_is_the_askers_own(self):
        history = line_of("a b c", "a x b c", "a x b c d", {"a": ["a", "x"], "b": []})
        for head, version in ((0, 1), (1, 1), (2, 1), (2, 2), (3, 3)):
            check_own_of_history(self, undone, history, head, version, version - 1)


if __name__ == "__main__":
    unittest.main()
