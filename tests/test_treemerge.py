"""Trees and versions merged, promises [4.5] and [4.6], and [1] of them."""

import itertools
import unittest

from pasthall.errors import BadTree, BadWeb, Clash, NoVersion
from pasthall.histories import History
from pasthall.treemerge import common_tree, merged_trees, merged_versions
from tests.helpers import (BAD_TREES, PATHS, chances, check_own, check_own_of_history, check_refused,
                           check_refused_of_history, common_by_words, common_tree_by_words, dense_web, full_tree,
                           history_of, merged_by_words, outcome, own_lines, set_above, shown, some_history, some_tree,
                           step_on, trees_by_words)

# 0; 1 and 2 made of it; 3 and 4 made of both.
CROSSED = [(), (0,), (0,), (1, 2), (1, 2)]
TRIPLE = [(), (), (), (0, 1, 2), (0, 1, 2)]


def crossed(first, second, third, fourth=None, fifth=None):
    """The crossed history with rows of one file, or with trees."""
    trees = [{"a": tree} if isinstance(tree, list) else tree for tree in (first, second, third, fourth, fifth)]
    return history_of(CROSSED, [tree or {} for tree in trees])


class Cases(unittest.TestCase):
    """[4.5], case by case; None is nothing at the path."""

    def merged(self, base, one, other):
        trees = [{} if row is None else {"a": row} for row in (base, one, other)]
        return merged_trees(*trees).get("a")

    def check_clash(self, base, one, other):
        trees = [{} if row is None else {"a": row} for row in (base, one, other)]
        self.assertEqual(outcome(merged_trees, *trees), ("Clash", ["a"]))

    def test_the_ones_is_the_bases(self):
        for row in (None, [], ["a"], ["b", "c"]):
            for other in (None, [], ["a"], ["x"]):
                self.assertEqual(self.merged(row, row, other), other)

    def test_the_others_is_the_bases(self):
        for row in (None, [], ["a"], ["b", "c"]):
            for one in (None, [], ["a"], ["x"]):
                self.assertEqual(self.merged(row, one, row), one)

    def test_both_are_alike(self):
        for row in (None, [], ["a"], ["b", "c"]):
            for both in (None, [], ["a"], ["x"]):
                self.assertEqual(self.merged(row, both, both), both)

    def test_three_rows_without_a_clash(self):
        self.assertEqual(self.merged(["a", "b", "c"], ["x", "b", "c"], ["a", "b", "y"]), ["x", "b", "y"])
        self.assertEqual(self.merged(["a", "b"], ["b"], ["a", "b", "c"]), ["b", "c"])
        self.assertEqual(self.merged(["a", "b"], ["b"], ["a"] + ["b"] * 2), ["b", "b"])

    def test_three_rows_with_a_clash(self):
        self.check_clash(["a"], ["b"], ["c"])
        self.check_clash([], ["b"], ["c"])
        self.check_clash(["a"], [], ["c"])
        self.check_clash(["a", "b"], ["b"], ["a"])

    def test_a_file_put_on_both_sides(self):
        self.check_clash(None, ["a"], ["b"])
        self.check_clash(None, [], ["b"])
        self.check_clash(None, ["a"], [])
        self.check_clash(None, ["a", "b"], ["b"])

    def test_a_file_taken_on_one_side_and_edited_on_the_other(self):
        self.check_clash(["a"], None, ["b"])
        self.check_clash(["a"], ["b"], None)
        self.check_clash(["a"], None, [])
        self.check_clash([], None, ["a"])
        self.check_clash([], ["a"], None)

    def test_a_merged_row_of_forty_lines_and_of_more(self):
        for many in (10, 20, 30, 39):
            base = own_lines(many)
            for ahead in range(1, 40 - many + 1):
                for behind in range(1, 40 - many + 1):
                    one, other = ["a"] * ahead + base, base + ["b"] * behind
                    if many + ahead + behind <= 40:
                        self.assertEqual(self.merged(base, one, other), one + ["b"] * behind)
                    else:
                        self.check_clash(base, one, other)

    def test_all_of_a_few_rows(self):
        rows = (None, [], ["a"], ["b"], ["a", "b"], ["x", "a"], ["a", "y"], ["x", "a", "y"])
        for three in itertools.product(rows, repeat=3):
            trees = [{} if row is None else {"a": row} for row in three]
            self.assertEqual(outcome(merged_trees, *trees), trees_by_words(*trees), three)


class Trees(unittest.TestCase):
    def test_path_by_path(self):
        base = {"a": ["a"], "b": ["b"], "c": ["c"], "d": ["p", "q", "r"], "e": []}
        one = {"a": ["a", "x"], "b": ["b"], "d": ["o", "q", "r"], "e": [], "f": ["f"]}
        other = {"a": ["a"], "c": ["c"], "d": ["p", "q", "s"], "e": ["e"], "g": []}
        self.assertEqual(merged_trees(base, one, other),
                         {"a": ["a", "x"], "d": ["o", "q", "s"], "e": ["e"], "f": ["f"], "g": []})

    def test_no_files(self):
        self.assertEqual(merged_trees({}, {}, {}), {})
        self.assertEqual(merged_trees({"a": ["b"]}, {}, {}), {})
        self.assertEqual(merged_trees({"a": ["b"]}, {}, {"a": ["b"]}), {})

    def test_all_clashing_paths_rising(self):
        base = {path: ["a"] for path in PATHS[:4]}
        one = {"docs": ["b"], "c": ["b"], "b": ["b"], "a": ["a"], "x": ["x"], "y": []}
        other = {"y": ["y"], "a": ["c"], "b": ["c"], "docs": ["c"], "c": ["b"], "x": ["x"]}
        self.assertEqual(outcome(merged_trees, base, one, other), ("Clash", ["b", "docs", "y"]))
        check_refused(self, Clash, merged_trees, base, one, other)

    def test_every_path_clashes(self):
        base, one, other = [{path: [line] for path in reversed(PATHS[:8])} for line in ("a", "b", "c")]
        self.assertEqual(outcome(merged_trees, base, one, other), ("Clash", sorted(PATHS[:8])))

    def test_what_is_no_tree(self):
        clash = ({"a": ["a"]}, {"a": ["b"]}, {"a": ["c"]})
        for bad in BAD_TREES:
            for good in (({}, {}, {}), clash):
                for turn in range(3):
                    check_refused(self, BadTree, merged_trees, *good[:turn], bad, *good[turn + 1:])
            check_refused(self, BadTree, merged_trees, bad, bad, bad)

    def test_eight_files_and_more(self):
        for many, more in itertools.product(range(9), range(9)):
            one = {"p" + letter: ["a"] for letter in "abcdefgh"[:many]}
            other = {"q" + letter: [] for letter in "abcdefgh"[:more]}
            if many + more <= 8:
                self.assertEqual(merged_trees({}, one, other), {**one, **other})
            else:
                check_refused(self, BadTree, merged_trees, {}, one, other)

    def test_files_taken_make_room(self):
        base = full_tree()
        one = {path: row for path, row in base.items() if path != PATHS[0]}
        other = {path: row for path, row in base.items() if path != PATHS[1]}
        other["new"] = ["n"]
        come = {path: row for path, row in other.items() if path != PATHS[0]}
        self.assertEqual(merged_trees(base, one, other), come)
        one["newer"] = []
        self.assertEqual(merged_trees(base, one, other), {**come, "newer": []})
        check_refused(self, BadTree, merged_trees, one, {**one, "zz": []}, {**one, "zy": []})

    def test_a_clash_ahead_of_too_many_files(self):
        one = {path: ["a"] for path in PATHS[:8]}
        other = {path: ["b"] for path in PATHS[7:10]}
        self.assertEqual(outcome(merged_trees, {}, one, other), ("Clash", [PATHS[7]]))

    def test_great_trees(self):
        base = full_tree()
        one = {path: ["a"] + row[1:] for path, row in base.items()}
        other = {path: row[:-1] + ["b"] for path, row in base.items()}
        come = {path: ["a"] + row[1:-1] + ["b"] for path, row in base.items()}
        self.assertEqual(merged_trees(base, one, other), come)

    def test_by_chance(self):
        outcomes = set()
        for chance in chances(61, 1500):
            base = some_tree(chance, chance.choice((2, 5, 8)), chance.choice((3, 12, 40)))
            trees = [base, base, base]
            for turn in (1, 2):
                for step in range(chance.randint(0, 5)):
                    trees[turn] = step_on(chance, trees[turn])
            if chance.randrange(10) == 0:
                trees[chance.randrange(3)] = some_tree(chance)
            self.assertEqual(outcome(merged_trees, *trees), trees_by_words(*trees), trees)
            outcomes.add(trees_by_words(*trees)[0])
        self.assertEqual(outcomes, {"told", "Clash", "BadTree"})

    def test_what_is_told_is_the_askers_own(self):
        row = ["a", "b"]
        same = {"a": row, "b": row}
        for three in ((same, same, same), ({}, same, same), (same, same, {"a": []}), (same, {"b": ["a"]}, same),
                      ({}, {"a": row, "b": row}, {"c": row}),
                      ({"a": ["a", "b"]}, {"a": ["x", "b"]}, {"a": ["a", "b", "y"]})):
            check_own(self, merged_trees, *three)


class CommonTree(unittest.TestCase):
    def test_no_common_version(self):
        history = history_of([(), (), (0,), (1,)], [{"a": ["a"]}] * 4)
        for some in ([0, 1], [2, 3], [0, 3], [2, 3, 0]):
            self.assertEqual(common_tree(history, some), {})

    def test_one_latest_common_version(self):
        history = crossed(["a"], ["b"], ["c"], ["d"], ["e"])
        for some, row in (([0], "a"), ([1, 2], "a"), ([3, 1], "b"), ([1, 3, 4], "b"), ([4, 4], "e"), ([3, 0, 1], "a"),
                          ([2], "c"), ([3], "d")):
            self.assertEqual(common_tree(history, some), {"a": [row]})

    def test_two_latest_common_versions(self):
        history = crossed(["a", "b", "c"], ["x", "b", "c"], ["a", "b", "y"])
        for some in ([3, 4], [4, 3], [3, 4, 3]):
            self.assertEqual(common_tree(history, some), {"a": ["x", "b", "y"]})

    def test_two_latest_common_versions_without_one_above_both(self):
        history = history_of([(), (), (0, 1), (0, 1)], [{"a": ["a"], "b": ["b"]}, {"a": ["a"], "c": []}, {}, {}])
        self.assertEqual(common_tree(history, [2, 3]), {"a": ["a"], "b": ["b"], "c": []})

    def test_three_latest_common_versions(self):
        history = history_of(TRIPLE, [{"a": ["a"]}, {"b": ["b"]}, {"c": ["c"], "a": ["a"]}, {}, {}])
        self.assertEqual(common_tree(history, [3, 4]), {"a": ["a"], "b": ["b"], "c": ["c"]})
        web = [(), (0,), (0,), (0,), (1, 2, 3), (1, 2, 3)]
        rows = (["a", "b", "c", "d", "e"], ["x", "b", "c", "d", "e"], ["a", "b", "y", "d", "e"],
                ["a", "b", "c", "d", "z"], [], [])
        history = history_of(web, [{"a": row} for row in rows])
        self.assertEqual(common_tree(history, [5, 4]), {"a": ["x", "b", "y", "d", "z"]})

    def test_the_base_is_common_to_all_so_far_and_the_next_one(self):
        # 3 and 4 have 1 in common, but 2, 3 and 4 have 0 alone; so what 3 did to a file of 1's is not seen.
        web = [(), (0,), (0,), (1,), (1,), (2, 3, 4), (2, 3, 4)]
        history = history_of(web, [{}, {"p": ["p"]}, {"q": []}, {"r": []}, {"p": ["p"], "s": []}, {}, {}])
        self.assertEqual(common_tree(history, [5, 6]), {"p": ["p"], "q": [], "r": [], "s": []})
        # And what 2 and 3 have in common, 1, is not the base for 4 either, which has but 0 with them.
        web = [(), (0,), (1,), (1,), (0,), (2, 3, 4), (2, 3, 4)]
        history = history_of(web, [{"p": ["o"]}, {"p": ["p"]}, {"p": ["p"]}, {"p": ["p"]}, {"p": ["o"]}, {}, {}])
        self.assertEqual(common_tree(history, [5, 6]), {"p": ["p"]})

    def test_the_base_hangs_on_no_later_one(self):
        # 2 and 3 are put together by 1, whose file 2 has taken; 4, which comes then, has but 0 with them.
        web = [(), (0,), (1,), (1,), (0,), (2, 3, 4), (2, 3, 4)]
        history = history_of(web, [{}, {"p": ["p"]}, {}, {"p": ["p"]}, {"q": []}, {}, {}])
        self.assertEqual(common_tree(history, [5, 6]), {"q": []})

    def test_crossings_one_behind_the_other(self):
        web = CROSSED + [(3, 4), (3, 4)]
        rows = ([["a", "b", "c", "d", "e"], ["x", "b", "c", "d", "e"], ["a", "b", "c", "d", "y"],
                 ["x", "b", "z", "d", "y"], ["x", "b", "c", "d", "w"], [], []])
        history = history_of(web, [{"a": row} for row in rows])
        self.assertEqual(common_tree(history, [5, 6]), {"a": ["x", "b", "z", "d", "w"]})

    def test_the_order_of_the_latest_ones(self):
        # 0 and 1 clash at one path, whatever comes later; with 2 both paths would.
        web = [(), (), (), (0, 1, 2), (0, 1, 2)]
        history = history_of(web, [{"a": ["a"], "b": ["a"]}, {"a": ["b"]}, {"a": ["c"], "b": ["c"]}, {}, {}])
        self.assertEqual(outcome(common_tree, history, [3, 4]), ("Clash", ["a"]))

    def test_a_clash_of_the_base(self):
        # The base of 3 and 4 is put together of 1 and 2, which clash.
        web = CROSSED + [(3, 4), (3, 4)]
        history = history_of(web, [{"a": ["a"]}, {"a": ["b"]}, {"a": ["c"]}, {"z": ["a"]}, {"z": ["b"]}, {}, {}])
        self.assertEqual(outcome(common_tree, history, [3, 4]), ("Clash", ["a"]))
        self.assertEqual(outcome(common_tree, history, [5, 6]), ("Clash", ["a"]))
        check_refused_of_history(self, Clash, common_tree, history, [3, 4])

    def test_too_many_files(self):
        trees = [{}] + [{first + letter: [] for letter in "abcde"} for first in "pq"] + [{}, {}]
        history = history_of(CROSSED, trees)
        check_refused_of_history(self, BadTree, common_tree, history, [3, 4])
        self.assertEqual(common_tree(history, [1, 2]), {})

    def test_by_chance(self):
        outcomes = {}
        for chance in chances(62, 250):
            many = chance.randint(1, 14)
            history = some_history(chance, many)
            for turn in range(12):
                some = [chance.randrange(many) for number in range(chance.choice((1, 2, 2, 3)))]
                expected = common_tree_by_words(history, some)
                self.assertEqual(outcome(common_tree, history, some), expected, (shown(history), some))
                outcomes[expected[0]] = outcomes.get(expected[0], 0) + 1
        self.assertGreater(outcomes["told"], outcomes["Clash"])

    def test_several_latest_common_versions_by_chance(self):
        counts = {}
        for chance in chances(65, 600):
            history = some_history(chance, chance.randint(4, 8))
            last = sorted(chance.sample(range(history.many()), 4))
            elders = [tuple(last[1:])] * 4 + [tuple(last[:3])]
            some = [history.put_version(chance.choice(elders), {}) for turn in range(3)]
            expected = common_tree_by_words(history, some[:2])
            self.assertEqual(outcome(common_tree, history, some[:2]), expected, (shown(history), some))
            self.assertEqual(outcome(common_tree, history, some), common_tree_by_words(history, some))
            if expected[0] == "told":
                many = len(common_by_words(history.web(), some[:2]))
                counts[many] = counts.get(many, 0) + 1
        self.assertGreater(min(counts.get(many, 0) for many in (1, 2, 3)), 10)

    def test_what_is_told_is_the_askers_own(self):
        history = crossed(["a", "b", "c"], ["x", "b", "c"], ["a", "b", "y"], ["d"], ["e"])
        for some in ([3, 4], [0], [1, 2], [3], [4, 4]):
            check_own_of_history(self, common_tree, history, some)


class MergedVersions(unittest.TestCase):
    def test_no_common_version(self):
        history = history_of([(), ()], [{"a": ["a"], "b": ["b"]}, {"a": ["a"], "c": []}])
        self.assertEqual(merged_versions(history, 0, 1), {"a": ["a"], "b": ["b"], "c": []})
        history = history_of([(), ()], [{"a": ["a"], "b": ["b"]}, {"a": ["b"], "b": []}])
        self.assertEqual(outcome(merged_versions, history, 0, 1), ("Clash", ["a", "b"]))

    def test_one_latest_common_version(self):
        history = crossed(["a", "b", "c"], ["x", "b", "c"], ["a", "b", "y"])
        self.assertEqual(merged_versions(history, 1, 2), {"a": ["x", "b", "y"]})
        self.assertEqual(merged_versions(history, 2, 1), {"a": ["x", "b", "y"]})

    def test_two_latest_common_versions(self):
        history = crossed(["a", "b", "c", "d"], ["x", "b", "c", "d"], ["a", "b", "c", "y"], ["x", "b", "d"],
                          ["x", "b", "c", "y"])
        # The base has x and y: so 3, which has d again, has put it in the place of y.
        self.assertEqual(merged_versions(history, 3, 4), {"a": ["x", "b", "d"]})
        self.assertEqual(merged_versions(history, 4, 3), {"a": ["x", "b", "d"]})

    def test_with_one_above_it(self):
        for chance in chances(63, 60):
            history = some_history(chance, 10)
            for one, other in itertools.product(range(10), repeat=2):
                if one in set_above(history.web(), other):
                    self.assertEqual(merged_versions(history, one, other), history.tree(other))
                    self.assertEqual(merged_versions(history, other, one), history.tree(other))

    def test_the_same_version_twice(self):
        history = crossed(["a"], ["b"], ["c"], ["d"], ["e"])
        for version in range(5):
            self.assertEqual(merged_versions(history, version, version), history.tree(version))

    def test_clash(self):
        history = crossed({"a": ["a"], "b": ["a"], "c": []}, {"b": ["b"], "c": ["c"]}, {"a": ["b"], "b": ["c"]})
        self.assertEqual(outcome(merged_versions, history, 1, 2), ("Clash", ["a", "b", "c"]))
        check_refused_of_history(self, Clash, merged_versions, history, 1, 2)

    def test_too_many_files(self):
        history = crossed({}, {path: [] for path in PATHS[:5]}, {path: [] for path in PATHS[4:9]})
        check_refused_of_history(self, BadTree, merged_versions, history, 1, 2)

    def test_by_chance(self):
        outcomes = {}
        for chance in chances(64, 250):
            many = chance.randint(2, 14)
            history = some_history(chance, many)
            for turn in range(12):
                one, other = chance.randrange(many), chance.randrange(many)
                expected = merged_by_words(history, one, other)
                self.assertEqual(outcome(merged_versions, history, one, other), expected)
                outcomes[expected[0]] = outcomes.get(expected[0], 0) + 1
        self.assertGreater(outcomes["told"], outcomes["Clash"])

    def test_crossings_at_forty_versions(self):
        # Thirteen times three versions, each made of the three ahead: what is common to them crosses over and over.
        start = own_lines(40)
        web, rows = [()], [start]
        for layer, turn in itertools.product(range(13), range(3)):
            row = [letter if place < 39 and place % 13 < layer else start[place]
                   for place, letter in enumerate("abcdefghijklm" * 3 + "z")]
            row[turn * 13 + layer] = "abcdefghijklm"[layer]
            web.append(tuple(range(layer * 3 - 2, layer * 3 + 1)) if layer else (0,))
            rows.append(row)
        history = history_of(web, [{path: row for path in PATHS[:8]} for row in rows])
        self.assertEqual(history.many(), 40)
        # The last but one and the last did their part in two of the three thirds; in the first one nobody did.
        come = list("abcdefghijklm" * 3) + start[39:]
        come[12] = start[12]
        self.assertEqual(merged_versions(history, 38, 39), {path: come for path in PATHS[:8]})
        come[25], come[38] = start[25], start[38]
        self.assertEqual(common_tree(history, [37, 38, 39]), {path: come for path in PATHS[:8]})

    def test_what_is_told_is_the_askers_own(self):
        history = crossed(["a", "b", "c"], ["x", "b", "c"], ["a", "b", "y"], ["x", "b", "y"], ["x", "b", "y"])
        for one, other in itertools.product(range(5), repeat=2):
            check_own_of_history(self, merged_versions, history, one, other)


class Refused(unittest.TestCase):
    def test_a_history_without_versions(self):
        for some in ([], [0], [-1], [0, 0], [5]):
            check_refused_of_history(self, BadWeb, common_tree, History(), some)
        for one, other in itertools.product((-1, 0, 1), repeat=2):
            check_refused_of_history(self, BadWeb, merged_versions, History(), one, other)

    def test_what_is_no_version(self):
        for many in (1, 4, 40):
            history = history_of(dense_web(many), [{}] * many)
            for bad in (-1, -many, -many - 1, many, many + 1, 1000):
                for some in ([bad], [0, bad], [bad, 0], [0, bad, 0]):
                    check_refused_of_history(self, NoVersion, common_tree, history, some)
                for good in (0, many - 1, bad):
                    check_refused_of_history(self, NoVersion, merged_versions, history, bad, good)
                    check_refused_of_history(self, NoVersion, merged_versions, history, good, bad)

    def test_no_versions_at_all(self):
        check_refused_of_history(self, NoVersion, common_tree, history_of([()], [{}]), [])
        check_refused_of_history(self, NoVersion, common_tree, crossed([], [], []), [])

    def test_no_version_ahead_of_a_clash(self):
        history = crossed(["a"], ["b"], ["c"], ["d"], ["e"])
        self.assertEqual(outcome(common_tree, history, [3, 4])[0], "Clash")
        check_refused_of_history(self, NoVersion, common_tree, history, [3, 4, 5])
        check_refused_of_history(self, NoVersion, common_tree, history, [3, 4, -1])


if __name__ == "__main__":
    unittest.main()
