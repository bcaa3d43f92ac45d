"""The lives of a line, promises [6.5] and [6.6], and [1] of them."""

import itertools
import unittest

from pasthall.errors import BadWeb, NoFile, NoVersion
from pasthall.histories import History
from pasthall.lives import lives
from pasthall.whence import chain
from tests.helpers import (NO_PATHS, chain_by_words, chances, check_own_of_history, check_refused_of_history,
                           dense_web, file_history, history_of, lines_at, long_history, some_history, some_row,
                           some_web)

LINE = [(), (0,), (1,), (2,)]
MERGED = [(), (0,), (0,), (1, 2)]


def lives_by_words(history, path):
    """[6.5] word by word: for each line with a path all lines in whose chains it is."""
    found = {line: [] for line in lines_at(history, path)}
    for version, place in lines_at(history, path):
        for line in chain_by_words(history, version, path, place):
            found[line].append((version, place))
    return found


def twofold():
    """One line of the first version stands in both elders of the last one, at two places of it."""
    return file_history(MERGED, "a b", "x a", "a y", "a y x a")


class Lives(unittest.TestCase):
    def test_one_behind_the_other(self):
        history = file_history(LINE, "a b", "a x b", "x b", "a x b y")
        self.assertEqual(lives(history, 0, "a", 0), [(0, 0), (1, 0)])
        self.assertEqual(lives(history, 0, "a", 1), [(0, 1), (1, 2), (2, 1), (3, 2)])
        self.assertEqual(lives(history, 1, "a", 1), [(1, 1), (2, 0), (3, 1)])
        self.assertEqual(lives(history, 3, "a", 0), [(3, 0)])

    def test_several_in_one_version(self):
        history = twofold()
        self.assertEqual(chain(history, 3, "a", 0), [(3, 0), (2, 0), (0, 0)])
        self.assertEqual(chain(history, 3, "a", 3), [(3, 3), (1, 1), (0, 0)])
        self.assertEqual(lives(history, 0, "a", 0), [(0, 0), (1, 1), (2, 0), (3, 0), (3, 3)])
        self.assertEqual(lives(history, 1, "a", 1), [(1, 1), (3, 3)])

    def test_only_where_the_chain_leads(self):
        # Both elders keep the line, and it comes from the lesser one alone.
        history = file_history(MERGED, "", "n", "n", "n")
        self.assertEqual(lives(history, 1, "a", 0), [(1, 0), (3, 0)])
        self.assertEqual(lives(history, 2, "a", 0), [(2, 0)])

    def test_other_paths_are_other_lines(self):
        history = history_of([(), (0,)], [{"a": ["x"], "b": ["x"]}, {"b": ["x"], "c": ["x"]}])
        self.assertEqual(lives(history, 0, "a", 0), [(0, 0)])
        self.assertEqual(lives(history, 0, "b", 0), [(0, 0), (1, 0)])

    def test_a_version_between_without_the_path(self):
        history = file_history([(), (0,), (1,), (0, 1)], "a", None, "a", "a")
        self.assertEqual(lives(history, 0, "a", 0), [(0, 0), (3, 0)])

    def test_against_the_chains_of_all_lines(self):
        several = 0
        for chance in chances(95, 60):
            web = chance.choice((some_web(chance, 4), some_web(chance, 12), dense_web(10)))
            trees = [{path: some_row(chance, 6, ("", "a", "b")) for path in ("a", "b") if chance.randrange(5)}
                     for version in web]
            history = history_of(web, trees)
            for path in ("a", "b"):
                for (version, place), expected in lives_by_words(history, path).items():
                    self.assertEqual(lives(history, version, path, place), sorted(expected))
                    several += len(set(number for number, at in expected)) < len(expected)
        self.assertGreater(several, 5)

    def test_against_the_chains_of_all_lines_in_grown_histories(self):
        for chance in chances(96, 12):
            history = some_history(chance, 12)
            for path in ("a", "b"):
                for (version, place), expected in lives_by_words(history, path).items():
                    self.assertEqual(lives(history, version, path, place), sorted(expected))

    def test_at_forty_versions(self):
        history = long_history()
        expected = lives_by_words(history, "b")
        for line in ((0, 0), (0, 2), (20, 1), (39, 2)):
            self.assertEqual(lives(history, line[0], "b", line[1]), sorted(expected[line]))
        told = lives(history, 0, "a", 39)
        self.assertEqual(told, sorted(told))
        for version, place in told[::5]:
            self.assertIn((0, 39), chain(history, version, "a", place))
        self.assertEqual(lives(history, 39, "a", 0), [(39, 0)])

    def test_they_become_no_fewer_when_versions_are_added(self):
        for chance in chances(97, 30):
            history = some_history(chance, 8)
            before = {line: lives(history, line[0], "a", line[1]) for line in lines_at(history, "a")}
            many = history.many()
            for turn in range(3):
                elder = chance.randrange(history.many())
                history.put_version((elder,), history.tree(elder))
            for (version, place), told in before.items():
                later = lives(history, version, "a", place)
                self.assertEqual([line for line in later if line[0] < many], told)


class Refused(unittest.TestCase):
    def test_a_history_without_versions(self):
        for version, path, place in itertools.product((-1, 0, 1), ("a", "", "A"), (-1, 0, 1)):
            check_refused_of_history(self, BadWeb, lives, History(), version, path, place)

    def test_what_is_no_version(self):
        for version, path, place in itertools.product((-1, -4, -5, 4, 1000), ("a", "b", "", "A"), (-1, 0, 100)):
            check_refused_of_history(self, NoVersion, lives, twofold(), version, path, place)

    def test_a_path_or_a_place_that_is_not_there(self):
        history = file_history(LINE, "a b", None, "a", "")
        for path, place in itertools.product(NO_PATHS, (-1, 0)):
            check_refused_of_history(self, NoFile, lives, history, 0, path, place)
        for version, many in enumerate((2, 0, 1, 0)):
            for place in (-1, -2, -3, many, many + 1, 1000):
                check_refused_of_history(self, NoFile, lives, history, version, "a", place)


class Own(unittest.TestCase):
    def test_what_is_told_is_the_askers_own(self):
        for version in range(4):
            check_own_of_history(self, lives, twofold(), version, "a", 1)


if __name__ == "__main__":
    unittest.main()
