"""Sums and sum papers, promises [7.1], [7.2] and [7.6], and [1] of them."""

import unittest

from pasthall.errors import BadTree, BadWeb, NoVersion
from pasthall.histories import History
from pasthall.sums import lacks, sum_holds, sum_paper, sums, text_sum
from tests.helpers import (BAD_TREES, chances, check_own, check_own_of_history, check_refused,
                           check_refused_of_history, dense_web, full_tree, history_of, long_history, some_history,
                           some_tree, some_web, sum_by_words, sums_by_words, text_sum_by_words)

SIGNS = "\n 0123456789abcdefghijklmnopqrstuvwxyz"


def four_versions():
    """Versions with none to three elders; an empty tree, an empty row and an empty line."""
    return history_of([(), (0,), (0, 1), (0, 1, 2)],
                      [{}, {"a": []}, {"b": ["x", ""], "a": ["yz"]}, {"abcdefgh": ["", "a"]}])


def with_lines(many):
    return {"a": ["x"] * many}


class TextSum(unittest.TestCase):
    def test_the_empty_text(self):
        self.assertEqual(text_sum(""), 7)

    def test_each_sign(self):
        self.assertEqual(len(SIGNS), 38)
        for number, sign in enumerate(SIGNS, 1):
            self.assertEqual(text_sum(sign), 217 + number)
            self.assertEqual(text_sum(sign + sign), 31 * (217 + number) + number)

    def test_reckoned_by_hand(self):
        self.assertEqual(text_sum("\n"), 218)
        self.assertEqual(text_sum(" "), 219)
        self.assertEqual(text_sum("0"), 220)
        self.assertEqual(text_sum("9"), 229)
        self.assertEqual(text_sum("a"), 230)
        self.assertEqual(text_sum("z"), 255)
        self.assertEqual(text_sum("ab"), 31 * 230 + 14)
        self.assertEqual(text_sum("ba"), 31 * 231 + 13)
        self.assertEqual(text_sum("abcd"), (31 * (31 * (31 * 230 + 14) + 15) + 16) % 1000003)

    def test_the_rest_is_taken(self):
        seen = [text_sum("z" * many) for many in range(2000)]
        self.assertEqual(seen, [text_sum_by_words("z" * many) for many in range(2000)])
        self.assertLess(max(seen), 1000003)
        self.assertGreater(max(seen), 990000)
        self.assertGreaterEqual(min(seen), 0)

    def test_long_texts(self):
        for chance in chances(100, 5):
            text = "".join(chance.choice(SIGNS) for place in range(20000))
            self.assertEqual(text_sum(text), text_sum_by_words(text))
            self.assertEqual(text_sum(SIGNS * 500 + text), text_sum_by_words(SIGNS * 500 + text))


class Sums(unittest.TestCase):
    def test_a_history_without_versions(self):
        self.assertEqual(sums(History()), [])

    def test_from_the_words(self):
        first = text_sum_by_words("\n")
        second = text_sum_by_words(str(first) + " \na 0\n")
        third = text_sum_by_words(str(first) + " " + str(second) + " \na 1\nyz\nb 2\nx\n\n")
        fourth = text_sum_by_words(" ".join(map(str, (first, second, third))) + " \nabcdefgh 2\n\na\n")
        self.assertEqual(sums(four_versions()), [first, second, third, fourth])

    def test_like_versions_have_like_sums(self):
        told = sums(history_of([(), (), (0,), (1,)], [{"a": ["x"]}] * 4))
        self.assertEqual((told[0], told[2]), (told[1], told[3]))
        self.assertNotEqual(told[0], told[2])

    def test_counts_of_two_figures(self):
        for many in (9, 10, 11, 39, 40):
            text = "\na " + str(many) + "\n" + "x\n" * many
            self.assertEqual(sums(history_of([()], [with_lines(many)])), [text_sum_by_words(text)])

    def test_paths_rise_however_they_came(self):
        one, other = {"b": ["x"], "a": [], "aa": ["y"]}, {"aa": ["y"], "b": ["x"], "a": []}
        self.assertEqual(sums(history_of([()], [one])), sums(history_of([()], [other])))
        self.assertEqual(sums(history_of([()], [one])), [text_sum_by_words("\na 0\naa 1\ny\nb 1\nx\n")])

    def test_by_chance(self):
        for chance in chances(101, 40):
            web = some_web(chance, 12)
            history = history_of(web, [some_tree(chance) for version in web])
            told = sums(history)
            self.assertEqual(told, sums_by_words(history))
            self.assertIs(type(told), list)

    def test_great_histories(self):
        for history in (history_of(dense_web(), [full_tree()] * 40), long_history()):
            self.assertEqual(sums(history), sums_by_words(history))

    def test_sums_stay_when_versions_are_added(self):
        history = four_versions()
        before = sums(history)
        history.put_version((1, 3), {"a": ["z"]})
        self.assertEqual(sums(history)[:4], before)


class SumPaper(unittest.TestCase):
    def test_told_ones(self):
        history = four_versions()
        told = sums_by_words(history)
        self.assertEqual(sum_paper(history, 0), ([], {}))
        self.assertEqual(sum_paper(history, 1), (told[:1], {"a": []}))
        self.assertEqual(sum_paper(history, 2), (told[:2], {"a": ["yz"], "b": ["x", ""]}))
        self.assertEqual(sum_paper(history, 3), (told[:3], {"abcdefgh": ["", "a"]}))
        for version in range(4):
            self.assertIs(type(sum_paper(history, version)), tuple)

    def test_they_hold_for_the_sum_and_for_no_other_number(self):
        for chance in chances(102, 30):
            history = some_history(chance, 8)
            told = sums(history)
            for version, elders in enumerate(history.web()):
                paper = sum_paper(history, version)
                self.assertEqual(paper, ([told[elder] for elder in elders], history.tree(version)))
                self.assertIs(sum_holds(told[version], paper), True)
                for number in (told[version] + 1, told[version] - 1, -told[version], 0, 7, told[version] + 1000003,
                               told[version] - 1000003):
                    self.assertIs(sum_holds(number, paper), number == told[version])

    def test_at_forty_versions(self):
        history = long_history()
        self.assertEqual(sum_paper(history, 39), (sums_by_words(history)[36:39], history.tree(39)))

    def test_refused(self):
        for version in (-1, 0, 1):
            check_refused_of_history(self, BadWeb, sum_paper, History(), version)
        for version in (-1, -4, -5, 4, 5, 1000):
            check_refused_of_history(self, NoVersion, sum_paper, four_versions(), version)


class SumHolds(unittest.TestCase):
    def test_without_a_history(self):
        for chance in chances(103, 100):
            numbers = [chance.randrange(2000000) for turn in range(chance.randrange(4))]
            tree = some_tree(chance)
            number = sum_by_words(numbers, tree)
            self.assertIs(sum_holds(number, (numbers, tree)), True)
            self.assertIs(sum_holds(number + 1, (numbers, tree)), False)

    def test_spoilt_ones(self):
        numbers, tree = [5, 17, 1000002], {"a": ["x", "y"], "b": []}
        number = sum_by_words(numbers, tree)
        self.assertIs(sum_holds(number, (numbers, tree)), True)
        for other in ([], [5], [17, 5, 1000002], [5, 17], [5, 17, 1000002, 0], [5, 17, 1000001], [517, 1000002]):
            self.assertIs(sum_holds(number, (other, tree)), False)
        for other in ({}, {"a": ["x", "y"]}, {"a": ["y", "x"], "b": []}, {"a": ["x"], "b": ["y"]},
                      {"a": ["xy"], "b": []}, {"a": ["x", "y", ""], "b": []}, {"a": ["x", "y"], "c": []},
                      {"a": ["x", "y"], "b": [""]}):
            self.assertIs(sum_holds(number, (numbers, other)), False)

    def test_the_order_of_the_files_makes_no_difference(self):
        number = sum_by_words([], {"a": ["x"], "b": ["y"]})
        self.assertIs(sum_holds(number, ([], {"b": ["y"], "a": ["x"]})), True)

    def test_what_is_no_tree(self):
        for tree in BAD_TREES:
            for numbers in ([], [0], [1, 2, 3]):
                for number in (-1, 0, 7, 218):
                    check_refused(self, BadTree, sum_holds, number, (numbers, tree))


class Lacks(unittest.TestCase):
    def test_numbers_in_any_order_and_twice(self):
        history = four_versions()
        told = sums(history)
        self.assertEqual(lacks(history, []), [0, 1, 2, 3])
        self.assertEqual(lacks(history, told), [])
        self.assertEqual(lacks(history, told[::-1] + told), [])
        self.assertEqual(lacks(history, [told[2], told[0], told[2]]), [1, 3])
        self.assertEqual(lacks(history, [told[3], -1, 10 ** 9, told[1]]), [0, 2])
        self.assertEqual(lacks(history, [0, 1, 2, 3]), [0, 1, 2, 3])

    def test_versions_with_one_sum(self):
        history = history_of([(), (), (0,)], [{}] * 3)
        told = sums(history)
        self.assertEqual(lacks(history, [told[0]]), [2])
        self.assertEqual(lacks(history, [told[2]]), [0, 1])

    def test_a_history_without_versions(self):
        for numbers in ([], [7], [218, 218]):
            self.assertEqual(lacks(History(), numbers), [])

    def test_by_chance(self):
        for chance in chances(104, 40):
            history = some_history(chance, 12)
            numbers = [number for number in sums_by_words(history) if chance.randrange(2)] + [3, 218]
            chance.shuffle(numbers)
            expected = [version for version, number in enumerate(sums_by_words(history)) if number not in numbers]
            self.assertEqual(lacks(history, numbers), expected)


class Own(unittest.TestCase):
    def test_what_is_told_is_the_askers_own(self):
        history = four_versions()
        check_own_of_history(self, sums, history)
        check_own_of_history(self, lacks, history, [218, 5])
        for version in range(4):
            check_own_of_history(self, sum_paper, history, version)
            check_own(self, sum_holds, 5, sum_paper(history, version))
        check_own_of_history(self, sums, History())
        check_own(self, text_sum, "abc")


if __name__ == "__main__":
    unittest.main()
