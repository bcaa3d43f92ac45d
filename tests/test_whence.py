"""Whence lines are, promises [6.1] to [6.4] and [6.6], and [1] of them."""

import itertools
import unittest

from pasthall.errors import BadPaper, BadWeb, NoFile, NoVersion
from pasthall.histories import History
from pasthall.whence import chain, chain_holds, whence
from tests.helpers import (NO_PATHS, PATHS, chain_by_words, chances, check_own_of_history, check_refused_of_history,
                           file_history, history_of, lines_at, long_history, some_history, some_row, some_web)

LINE = [(), (0,), (1,), (2,)]
MERGED = [(), (0,), (0,), (1, 2)]


def grown():
    """Lines are put, taken and put again, one version behind the other."""
    return file_history(LINE, "a b", "a x b", "x b", "a x b y")


def tangled_histories(seed, many):
    """Histories with few lines, which stand twice and are empty, at few paths; some trees lack them."""
    for chance in chances(seed, many):
        web = some_web(chance, chance.choice((4, 8, 12)))
        trees = []
        for elders in web:
            trees.append({path: some_row(chance, chance.choice((0, 3, 6)), ("", "a", "b")) for path in ("a", "b")
                          if chance.randrange(5)})
        yield chance, history_of(web, trees)


def holds_by_words(history, path, told):
    """[6.4] word by word, for lines that are there."""
    return told == chain_by_words(history, told[0][0], path, told[0][1])


def spoilt_chains(chance, told, lines):
    """Chains that differ from a told one: a tuple left out, put in, put otherwise, one more, the order turned."""
    place = chance.randrange(len(told))
    other = chance.choice(lines)
    spoilt = [told[:place] + told[place + 1:], told[:place] + [other] + told[place:], told + [other], told + told[-1:],
              told[:place] + [other] + told[place + 1:], told[::-1], told[:-1], told[1:], told + told, [other] + told]
    return [chain for chain in spoilt if chain]


class Watched(History):
    """A history that writes down whose trees were asked for."""

    def __init__(self):
        super().__init__()
        self.asked = set()

    def tree(self, version):
        self.asked.add(version)
        return super().tree(version)


class Whence(unittest.TestCase):
    def test_lines_put_taken_and_put_again(self):
        history = grown()
        self.assertEqual(whence(history, 0, "a"), [(0, 0), (0, 1)])
        self.assertEqual(whence(history, 1, "a"), [(0, 0), (1, 1), (0, 1)])
        self.assertEqual(whence(history, 2, "a"), [(1, 1), (0, 1)])
        self.assertEqual(whence(history, 3, "a"), [(3, 0), (1, 1), (0, 1), (3, 3)])

    def test_the_least_elder_first(self):
        history = file_history(MERGED, "a", "x a", "a y x", "x a y x")
        self.assertEqual(whence(history, 3, "a"), [(1, 0), (0, 0), (2, 1), (2, 2)])
        # Both keep the line "n", and each has put it by itself.
        history = file_history(MERGED, "a", "a n", "n", "n")
        self.assertEqual(whence(history, 3, "a"), [(1, 1)])
        history = file_history([(), (), (), (0, 1, 2), (1, 2), (2,)], "a", "b", "a b", "a b", "a b", "a b")
        self.assertEqual(whence(history, 3, "a"), [(0, 0), (1, 0)])
        self.assertEqual(whence(history, 4, "a"), [(2, 0), (1, 0)])
        self.assertEqual(whence(history, 5, "a"), [(2, 0), (2, 1)])

    def test_elders_without_the_path(self):
        history = file_history(MERGED, "a", None, "a b", "a b")
        self.assertEqual(whence(history, 3, "a"), [(0, 0), (2, 1)])
        history = file_history(LINE, "a", None, "a", "a")
        self.assertEqual(whence(history, 3, "a"), [(2, 0)])
        history = history_of([(), (0,)], [{"b": ["x"]}, {"a": ["x"]}])
        self.assertEqual(whence(history, 1, "a"), [(1, 0)])

    def test_versions_without_elders(self):
        history = file_history([(), (), ()], "a b", "a b", "")
        self.assertEqual(whence(history, 0, "a"), [(0, 0), (0, 1)])
        self.assertEqual(whence(history, 1, "a"), [(1, 0), (1, 1)])

    def test_empty_rows(self):
        history = file_history(LINE, "", "a", "", "a")
        self.assertEqual([whence(history, version, "a") for version in range(4)], [[], [(1, 0)], [], [(3, 0)]])

    def test_lines_that_stand_twice(self):
        # The first of the lists of kept pairs: of "a" to "a a" the first one is kept.
        history = file_history(LINE, "a", "a a", "b a a", "a b a a")
        self.assertEqual(whence(history, 1, "a"), [(0, 0), (1, 1)])
        self.assertEqual(whence(history, 2, "a"), [(2, 0), (0, 0), (1, 1)])
        self.assertEqual(whence(history, 3, "a"), [(3, 0), (2, 0), (0, 0), (1, 1)])
        history = history_of([(), (0,)], [{"a": ["", ""]}, {"a": ["", "x", "", ""]}])
        self.assertEqual(whence(history, 1, "a"), [(0, 0), (1, 1), (0, 1), (1, 3)])

    def test_lines_exchanged(self):
        history = file_history(LINE, "a b", "b a", "a b", "b a")
        self.assertEqual(whence(history, 1, "a"), [(1, 0), (0, 0)])
        self.assertEqual(whence(history, 2, "a"), [(2, 0), (1, 0)])

    def test_by_words(self):
        for chance, history in tangled_histories(90, 60):
            for version, path in itertools.product(range(history.many()), ("a", "b")):
                if path in history.tree(version):
                    told = whence(history, version, path)
                    many = len(history.tree(version)[path])
                    self.assertEqual(told, [chain_by_words(history, version, path, place)[-1] for place in range(many)])
                    self.assertIs(type(told), list)

    def test_at_forty_versions(self):
        history = long_history()
        for version in (0, 20, 39):
            told = whence(history, version, "a")
            self.assertEqual(told, [chain(history, version, "a", place)[-1] for place in range(40)])
        self.assertEqual(whence(history, 0, "a"), [(0, place) for place in range(40)])


class Chain(unittest.TestCase):
    def test_told_ones(self):
        history = grown()
        self.assertEqual(chain(history, 3, "a", 0), [(3, 0)])
        self.assertEqual(chain(history, 3, "a", 1), [(3, 1), (2, 0), (1, 1)])
        self.assertEqual(chain(history, 3, "a", 2), [(3, 2), (2, 1), (1, 2), (0, 1)])
        self.assertEqual(chain(history, 0, "a", 1), [(0, 1)])

    def test_the_least_elder_first(self):
        history = file_history(MERGED, "a b", "a", "b a", "b a b")
        self.assertEqual(chain(history, 3, "a", 0), [(3, 0), (2, 0)])
        self.assertEqual(chain(history, 3, "a", 1), [(3, 1), (1, 0), (0, 0)])
        self.assertEqual(chain(history, 3, "a", 2), [(3, 2)])

    def test_by_words_and_all_lines_alike(self):
        for chance, history in tangled_histories(91, 60):
            for path in ("a", "b"):
                for version, place in lines_at(history, path):
                    told = chain(history, version, path, place)
                    self.assertEqual(told, chain_by_words(history, version, path, place))
                    lines = set(history.tree(number)[path][at] for number, at in told)
                    self.assertEqual(lines, {history.tree(version)[path][place]})

    def test_by_words_in_grown_histories(self):
        for chance in chances(92, 30):
            history = some_history(chance, 12)
            for path in PATHS:
                for version, place in lines_at(history, path):
                    told = chain(history, version, path, place)
                    self.assertEqual(told, chain_by_words(history, version, path, place))

    def test_at_forty_versions(self):
        history = file_history([()] + [(version,) for version in range(39)], *["a b c"] * 40)
        for place in range(3):
            self.assertEqual(chain(history, 39, "a", place), [(version, place) for version in range(39, -1, -1)])
        history = long_history()
        for place in range(0, 40, 9):
            self.assertEqual(chain(history, 39, "a", place), chain_by_words(history, 39, "a", place))

    def test_what_was_told_stays_when_versions_are_added(self):
        for chance, history in tangled_histories(93, 20):
            lines = [(version, path, place) for path in ("a", "b") for version, place in lines_at(history, path)]
            before = [chain(history, *line) for line in lines]
            wholes = [whence(history, version, path) for version, path, place in lines]
            for turn in range(3):
                history.put_version((chance.randrange(history.many()),), {"a": ["a", "b", "", "a"], "b": ["b"]})
            self.assertEqual([chain(history, *line) for line in lines], before)
            self.assertEqual([whence(history, version, path) for version, path, place in lines], wholes)


class ChainHolds(unittest.TestCase):
    def test_told_ones(self):
        history = grown()
        for told in ([(3, 0)], [(3, 1), (2, 0), (1, 1)], [(3, 2), (2, 1), (1, 2), (0, 1)], [(1, 0), (0, 0)]):
            self.assertIs(chain_holds(history, "a", told), True)

    def test_spoilt_ones(self):
        history = grown()
        for told in ([(3, 2), (2, 1), (1, 2)], [(3, 2), (1, 2), (0, 1)], [(3, 2), (2, 1), (0, 1)], [(3, 2), (0, 1)],
                     [(0, 1), (1, 2), (2, 1), (3, 2)], [(3, 2), (2, 1), (1, 2), (0, 0)], [(3, 2)],
                     [(3, 2), (2, 1), (1, 2), (0, 1), (0, 1)], [(3, 2), (3, 2), (2, 1), (1, 2), (0, 1)],
                     [(3, 2), (2, 0), (1, 1)], [(3, 0), (2, 0), (1, 1)], [(3, 0), (0, 0)],
                     [(3, 1), (2, 0), (1, 1), (0, 0)], [(3, 2), (2, 1), (1, 1), (0, 1)],
                     [(3, 2), (2, 1), (1, 2), (0, 1), (3, 0)]):
            self.assertIs(chain_holds(history, "a", told), False, told)

    def test_another_elder_than_the_least_that_keeps_it(self):
        history = file_history(MERGED, "a", "a", "a", "a")
        self.assertIs(chain_holds(history, "a", [(3, 0), (1, 0), (0, 0)]), True)
        self.assertIs(chain_holds(history, "a", [(3, 0), (2, 0), (0, 0)]), False)
        self.assertIs(chain_holds(history, "a", [(3, 0), (0, 0)]), False)

    def test_all_short_chains(self):
        history = file_history(MERGED, "a", "a a", "b", "a b")
        lines = lines_at(history, "a")
        for many in range(1, 5):
            for told in itertools.product(lines, repeat=many):
                expected = holds_by_words(history, "a", list(told))
                self.assertIs(chain_holds(history, "a", list(told)), expected)

    def test_by_chance(self):
        for chance, history in tangled_histories(94, 40):
            for path in ("a", "b"):
                lines = lines_at(history, path)
                for version, place in lines:
                    told = chain(history, version, path, place)
                    self.assertIs(chain_holds(history, path, told), True)
                for line in chance.sample(lines, min(5, len(lines))):
                    told = chain(history, line[0], path, line[1])
                    for spoilt in spoilt_chains(chance, told, lines):
                        expected = holds_by_words(history, path, spoilt)
                        self.assertIs(chain_holds(history, path, spoilt), expected, spoilt)

    def test_only_the_chains_own_versions_and_their_elders_are_looked_at(self):
        history = Watched()
        for elders in ((), (0,), (1,), (1,), (3,), (4,), (2, 5)):
            history.put_version(elders, {"a": ["x"]})
        history.asked.clear()
        self.assertIs(chain_holds(history, "a", [(6, 0), (2, 0), (1, 0), (0, 0)]), True)
        self.assertEqual(history.asked, {0, 1, 2, 5, 6})
        history.asked.clear()
        self.assertIs(chain_holds(history, "a", [(5, 0), (4, 0)]), False)
        self.assertEqual(history.asked, {3, 4, 5})

    def test_what_is_no_line_with_the_path(self):
        history = file_history(LINE, "a b", None, "a", "")
        for bad in ((0, 2), (0, -1), (0, -2), (1, 0), (2, 1), (2, -1), (3, 0), (4, 0), (-1, 0), (-2, 0), (-4, 0),
                    (100, 0), (0, 100), (-1, -1)):
            for told in ([bad], [(0, 0), bad], [bad, (0, 0)], [(2, 0), bad, (0, 0)], [(2, 0), (0, 0), bad]):
                check_refused_of_history(self, BadPaper, chain_holds, history, "a", told)
        for path in NO_PATHS:
            check_refused_of_history(self, BadPaper, chain_holds, history, path, [(0, 0)])

    def test_no_tuples_at_all(self):
        for path in ("a",) + NO_PATHS:
            check_refused_of_history(self, BadPaper, chain_holds, grown(), path, [])

    def test_a_history_without_versions(self):
        for path, told in itertools.product(("a", "", "A"), ([], [(0, 0)], [(-1, 0)])):
            check_refused_of_history(self, BadWeb, chain_holds, History(), path, told)


class Refused(unittest.TestCase):
    def test_a_history_without_versions(self):
        for version, path in itertools.product((-1, 0, 1), ("a", "", "A")):
            check_refused_of_history(self, BadWeb, whence, History(), version, path)
            for place in (-1, 0, 1):
                check_refused_of_history(self, BadWeb, chain, History(), version, path, place)

    def test_what_is_no_version(self):
        for version, path in itertools.product((-1, -4, -5, 4, 5, 1000), ("a", "b") + NO_PATHS):
            check_refused_of_history(self, NoVersion, whence, grown(), version, path)
            for place in (-1, 0, 100):
                check_refused_of_history(self, NoVersion, chain, grown(), version, path, place)

    def test_a_path_that_is_not_there(self):
        history = history_of(LINE, [{"a": ["x"]}, {"b": ["x"]}, {}, {"a": ["x"]}])
        for version, path in [(0, "b"), (1, "a"), (2, "a"), (2, "b"), (3, "b")] + [(0, path) for path in NO_PATHS]:
            check_refused_of_history(self, NoFile, whence, history, version, path)
            for place in (-1, 0, 1):
                check_refused_of_history(self, NoFile, chain, history, version, path, place)

    def test_a_place_that_is_not_there(self):
        history = file_history(LINE, "a b", "a", "", "a b c")
        for version, many in enumerate((2, 1, 0, 3)):
            for place in (-1, -many, -many - 1, many, many + 1, 1000):
                if place not in range(many):
                    check_refused_of_history(self, NoFile, chain, history, version, "a", place)


class Own(unittest.TestCase):
    def test_what_is_told_is_the_askers_own(self):
        history = grown()
        for version in range(4):
            check_own_of_history(self, whence, history, version, "a")
            check_own_of_history(self, chain, history, version, "a", 1)
            check_own_of_history(self, chain_holds, history, "a", chain(history, version, "a", 1))


if __name__ == "__main__":
    unittest.main()
