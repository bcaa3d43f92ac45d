"""Histories, promise [3.5], and [1] of them."""

import itertools
import unittest

from pasthall.errors import BadTree, BadWeb, NoVersion
from pasthall.histories import History
from pasthall.webs import is_web
from tests.helpers import (BAD_TREES, chances, check_own_of_history, check_refused_of_history, dense_web, full_tree,
                           history_of, holders, shown, some_tree, some_web, spoil)


def three_versions():
    return history_of([(), (0,), (0, 1)], [{"a": ["x"]}, {"a": ["x", "y"], "b": []}, {}])


class Added(unittest.TestCase):
    def test_without_versions(self):
        history = History()
        self.assertEqual(history.many(), 0)
        self.assertEqual(history.web(), [])
        self.assertIs(type(history.web()), list)

    def test_one_by_one(self):
        for chance in chances(39, 40):
            web, history = some_web(chance), History()
            trees = [some_tree(chance) for version in web]
            for version in range(40):
                self.assertEqual(history.put_version(web[version], trees[version]), version)
                self.assertEqual(history.many(), version + 1)
                self.assertEqual(history.web(), web[:version + 1])
            self.assertEqual([history.tree(version) for version in range(40)], trees)

    def test_none_is_changed_by_a_later_one(self):
        history = three_versions()
        before = shown(history)
        self.assertEqual(history.put_version((0, 1, 2), {"a": ["z"]}), 3)
        self.assertEqual(history.web()[:3], before[1])
        self.assertEqual([history.tree(version) for version in range(3)], before[2])
        self.assertEqual(history.tree(3), {"a": ["z"]})

    def test_elders_of_each_number(self):
        history = history_of([()] * 3, [{}] * 3)
        self.assertEqual(history.put_version((), {}), 3)
        self.assertEqual(history.put_version((3,), {}), 4)
        self.assertEqual(history.put_version((0, 4), {}), 5)
        self.assertEqual(history.put_version((0, 2, 5), {}), 6)
        self.assertEqual(history.web(), [(), (), (), (), (3,), (0, 4), (0, 2, 5)])

    def test_great_trees(self):
        history = History()
        for version in range(40):
            self.assertEqual(history.put_version((), full_tree()), version)
        for version in range(40):
            self.assertEqual(history.tree(version), full_tree())

    def test_like_trees_are_versions_of_their_own(self):
        history = history_of([(), (0,), (0,)], [{"a": []}] * 3)
        self.assertEqual(shown(history), (3, [(), (0,), (0,)], [{"a": []}] * 3))


class Refused(unittest.TestCase):
    def test_elders_that_are_none(self):
        for many in range(6):
            history = history_of(dense_web(many), [{}] * many)
            for bad in ((many,), (many + 1,), (100,), (-1,), (0, 0), (1, 0), (-1, 0), (0, many), (0, 1, 1),
                        (0, 1, 2, 3), (0, 2, 1), (2, 1, 0)):
                for tree in ({}, {"a": ["b"]}) + BAD_TREES[:3]:
                    check_refused_of_history(self, BadWeb, History.put_version, history, bad, tree)

    def test_all_short_tuples(self):
        for many in range(5):
            for elders in itertools.product(range(-1, 6), repeat=many):
                history = history_of([()] * 4, [{}] * 4)
                if is_web([()] * 4 + [elders]):
                    self.assertEqual(history.put_version(elders, {"a": []}), 4)
                    self.assertEqual(history.web()[4], elders)
                else:
                    check_refused_of_history(self, BadWeb, History.put_version, history, elders, {"a": []})

    def test_a_forty_first_version(self):
        history = history_of(dense_web(), [{}] * 40)
        for elders in ((), (0,), (37, 38, 39), (40,)):
            for tree in ({}, {"a": ["b"]}) + BAD_TREES:
                check_refused_of_history(self, BadWeb, History.put_version, history, elders, tree)
        self.assertEqual(history.many(), 40)

    def test_what_is_no_tree(self):
        for history, elders in ((History(), ()), (three_versions(), (0, 2)), (history_of([()] * 39, [{}] * 39), ())):
            before = (history.many(), history.web())
            for tree in BAD_TREES:
                check_refused_of_history(self, BadTree, History.put_version, history, elders, tree)
            self.assertEqual((history.many(), history.web()), before)
            # What was refused has left nothing behind: the next number is as it was.
            self.assertEqual(history.put_version(elders, {"a": ["b"]}), before[0])
            self.assertEqual(history.tree(before[0]), {"a": ["b"]})

    def test_the_tree_of_no_version(self):
        for many in (1, 3, 40):
            history = history_of(dense_web(many), [{}] * many)
            for version in (-1, -many, -many - 1, many, many + 1, 1000):
                check_refused_of_history(self, NoVersion, History.tree, history, version)

    def test_the_tree_of_a_history_without_versions(self):
        for version in (0, -1, 1, 100):
            check_refused_of_history(self, BadWeb, History.tree, History(), version)


class Own(unittest.TestCase):
    def test_what_is_handed_in_is_not_kept(self):
        history = History()
        tree = {"a": ["x"], "b": []}
        history.put_version((), tree)
        history.put_version((0,), tree)
        spoil(tree)
        self.assertEqual(history.tree(0), {"a": ["x"], "b": []})
        self.assertEqual(history.tree(1), {"a": ["x"], "b": []})

    def test_what_is_handed_in_is_not_changed(self):
        for chance in chances(40, 20):
            tree = some_tree(chance)
            before = {path: list(row) for path, row in tree.items()}
            history = history_of([()], [tree])
            history.put_version((0,), {})
            spoil(history.tree(0))
            self.assertEqual(tree, before)

    def test_one_row_handed_in_at_two_paths(self):
        row = ["x"]
        history = history_of([(), (0,)], [{"a": row, "b": row}, {"b": row}])
        told = history.tree(0)
        told["a"].append("y")
        self.assertEqual(told, {"a": ["x", "y"], "b": ["x"]})
        self.assertEqual(history.tree(0), {"a": ["x"], "b": ["x"]})
        self.assertEqual(history.tree(1), {"b": ["x"]})

    def test_what_is_told_is_the_askers_own(self):
        history = three_versions()
        check_own_of_history(self, History.many, history)
        check_own_of_history(self, History.web, history)
        for version in range(3):
            check_own_of_history(self, History.tree, history, version)

    def test_no_two_that_are_told_are_one(self):
        history = three_versions()
        told = [history.web(), history.web()]
        told.extend(history.tree(version) for version in (0, 1, 2, 0, 1, 2))
        found = [id(holder) for holder in holders(told)]
        self.assertEqual(len(found), len(set(found)))

    def test_a_history_goes_on_behind_a_spoilt_web(self):
        history = three_versions()
        history.web().clear()
        history.web().append((9,))
        self.assertEqual(history.put_version((2,), {}), 3)
        self.assertEqual(history.web(), [(), (0,), (0, 1), (2,)])

    def test_what_was_told_stays_when_versions_are_added(self):
        history = three_versions()
        web, tree = history.web(), history.tree(1)
        history.put_version((1,), {"c": []})
        self.assertEqual(web, [(), (0,), (0, 1)])
        self.assertEqual(tree, {"a": ["x", "y"], "b": []})

    def test_two_histories_have_nothing_in_common(self):
        one, other = History(), History()
        tree = {"a": ["x"]}
        one.put_version((), tree)
        self.assertEqual((other.many(), other.web()), (0, []))
        other.put_version((), tree)
        other.put_version((0,), {})
        spoil(one.tree(0))
        spoil(one.web())
        self.assertEqual(shown(one), (1, [()], [{"a": ["x"]}]))
        self.assertEqual(shown(other), (2, [(), (0,)], [{"a": ["x"]}, {}]))
        self.assertEqual(History().many(), 0)


if __name__ == "__main__":
    unittest.main()
