"""Chains by a depth and packs written, promises [7.3] and [7.4], and [1] of them."""

import itertools
import unittest

from pasthall.errors import BadWeb
from pasthall.histories import History
from pasthall.packing import chains, packed
from tests.helpers import (BAD_WEBS, all_webs, chains_by_words, chances, check_own, check_own_of_history,
                           check_refused, check_refused_of_history, dense_web, full_tree, history_of, line_web,
                           long_history, own_lines, packed_by_words, some_history, some_tree, some_web, sums_by_words)


def deeds_of_all_kinds():
    """A version whole, then one with each kind of deed, and one whose tree is its elder's."""
    return history_of([(), (0,), (1,)], [{"b": ["x", "y"], "a": ["p"], "c": [], "e": ["q"]},
                                         {"b": ["y", "z"], "d": ["", "n"], "e": ["q"], "f": []},
                                         {"b": ["y", "z"], "d": ["", "n"], "e": ["q"], "f": []}])


def text_of(*lines):
    return "".join(line + "\n" for line in lines)


class Chains(unittest.TestCase):
    def test_one_behind_the_other(self):
        web = line_web(40)
        for depth in range(10):
            self.assertEqual(chains(web, depth), [version % (depth + 1) for version in range(40)])

    def test_depth_nought(self):
        for web in (line_web(40), dense_web(), [()]):
            self.assertEqual(chains(web, 0), [0] * len(web))

    def test_by_the_first_elder_alone(self):
        self.assertEqual(chains([(), (0,), (1,), (0, 2), (2, 3), (3,)], 9), [0, 1, 2, 1, 3, 2])
        self.assertEqual(chains([(), (0,), (1,), (0, 2), (2, 3), (3,)], 2), [0, 1, 2, 1, 0, 2])
        self.assertEqual(chains([(), (), (0, 1), (1, 2), (2, 3)], 1), [0, 0, 1, 1, 0])

    def test_by_words(self):
        webs = all_webs(4) + [some_web(chance) for chance in chances(110, 60)] + [dense_web()]
        for web, depth in itertools.product(webs, range(10)):
            told = chains(web, depth)
            self.assertEqual(told, chains_by_words(web, depth))
            self.assertIs(type(told), list)
            self.assertLessEqual(max(told), depth)

    def test_a_depth_beyond_nine_is_not_refused(self):
        self.assertEqual(chains(line_web(40), 12), [version % 13 for version in range(40)])

    def test_refused(self):
        for web, depth in itertools.product(BAD_WEBS, (0, 1, 9)):
            check_refused(self, BadWeb, chains, web, depth)


class Packed(unittest.TestCase):
    def test_one_empty_version(self):
        history = history_of([()], [{}])
        for depth in range(10):
            self.assertEqual(packed(history, depth), text_of(f"pack 1 {depth}", "version -", "whole", "sum 218"))

    def test_each_kind_line_by_line(self):
        history = deeds_of_all_kinds()
        told = sums_by_words(history)
        whole = ["version -", "whole", "file a 1", "=p", "file b 2", "=x", "=y", "file c 0", "file e 1", "=q",
                 f"sum {told[0]}"]
        more = ["version 0", "more", "gone a 1", "=p", "edit b 2", "-0=x", "+2=z", "gone c 0", "new d 2", "=", "=n",
                "new f 0", f"sum {told[1]}"]
        files = ["file b 2", "=y", "=z", "file d 2", "=", "=n", "file e 1", "=q", "file f 0"]
        same = ["version 1", "more", f"sum {told[2]}"]
        self.assertEqual(packed(history, 9), text_of("pack 3 9", *whole, *more, *same))
        self.assertEqual(packed(history, 2), text_of("pack 3 2", *whole, *more, *same))
        second = ["version 1", "whole"] + files + [f"sum {told[2]}"]
        self.assertEqual(packed(history, 1), text_of("pack 3 1", *whole, *more, *second))
        first = ["version 0", "whole"] + files + [f"sum {told[1]}"]
        self.assertEqual(packed(history, 0), text_of("pack 3 0", *whole, *first, *second))

    def test_up_to_three_elders(self):
        history = history_of([(), (0,), (0, 1), (0, 1, 2), (1, 3)], [{}] * 5)
        lines = packed(history, 9).split("\n")
        self.assertEqual([line for line in lines if line.startswith("version")],
                         ["version -", "version 0", "version 0 1", "version 0 1 2", "version 1 3"])
        self.assertEqual([line for line in lines if line in ("whole", "more")], ["whole"] + ["more"] * 4)

    def test_the_first_elder_is_the_one_changed(self):
        history = history_of([(), (), (0, 1)], [{"a": ["x"]}, {"a": ["y"]}, {"a": ["y"]}])
        told = sums_by_words(history)
        self.assertEqual(packed(history, 1), text_of(
            "pack 3 1", "version -", "whole", "file a 1", "=x", f"sum {told[0]}", "version -", "whole", "file a 1",
            "=y", f"sum {told[1]}", "version 0 1", "more", "edit a 2", "-0=x", "+1=y", f"sum {told[2]}"))

    def test_places_and_counts_of_two_figures(self):
        rows = [own_lines(40), own_lines(12) + own_lines(40)[13:39] + ["z", "y"], own_lines(11)]
        history = history_of(line_web(3), [{"a": row} for row in rows])
        lines = packed(history, 9).split("\n")
        self.assertEqual(lines[3], "file a 40")
        start = lines.index("edit a 4")
        self.assertEqual(lines[start + 1:start + 5], ["-12=" + rows[0][12], "-39=" + rows[0][39], "+40=z", "+40=y"])
        self.assertIn("edit a 29", lines)
        self.assertEqual(packed(history, 9), packed_by_words(history, 9))

    def test_puts_ahead_of_takes(self):
        history = history_of(line_web(2), [{"a": ["b", "c"]}, {"a": ["x", "", "c", "y"]}])
        lines = packed(history, 1).split("\n")
        start = lines.index("edit a 4")
        self.assertEqual(lines[start:start + 5], ["edit a 4", "-0=b", "+1=x", "+1=", "+2=y"])

    def test_paths_rise(self):
        tree = {path: [] for path in ("b", "aa", "a", "ab", "zzzzzzzz", "c", "ba", "az")}
        history = history_of(line_web(3), [tree, {}, tree])
        for word, depth in (("file", 0), ("file", 9), ("gone", 9), ("new", 9)):
            lines = [line for line in packed(history, depth).split("\n") if line.startswith(word)][:8]
            self.assertEqual(lines, [word + " " + path + " 0" for path in sorted(tree)])

    def test_by_words(self):
        for chance in chances(111, 40):
            history = some_history(chance, chance.choice((1, 6, 12)))
            for depth in range(10):
                self.assertEqual(packed(history, depth), packed_by_words(history, depth))

    def test_by_words_with_trees_far_apart(self):
        for chance in chances(112, 40):
            web = some_web(chance, 6)
            history = history_of(web, [some_tree(chance) for version in web])
            for depth in (0, 1, 2, 9):
                self.assertEqual(packed(history, depth), packed_by_words(history, depth))

    def test_great_histories(self):
        for history in (history_of(dense_web(), [full_tree()] * 40), long_history()):
            for depth in (0, 5, 9):
                self.assertEqual(packed(history, depth), packed_by_words(history, depth))

    def test_only_its_own_signs(self):
        for chance in chances(113, 20):
            text = packed(some_history(chance, 8), 3)
            self.assertEqual(set(text) - set("\n 0123456789abcdefghijklmnopqrstuvwxyz=+-"), set())
            self.assertTrue(text.endswith("\n"))

    def test_a_depth_beyond_nine_is_not_refused(self):
        history = deeds_of_all_kinds()
        self.assertEqual(packed(history, 10), packed_by_words(history, 10))

    def test_refused(self):
        for depth in range(10):
            check_refused_of_history(self, BadWeb, packed, History(), depth)


class Own(unittest.TestCase):
    def test_what_is_told_is_the_askers_own(self):
        for depth in (0, 1, 9):
            check_own(self, chains, line_web(5), depth)
            check_own_of_history(self, packed, deeds_of_all_kinds(), depth)


if __name__ == "__main__":
    unittest.main()
