"""Kept pairs and ladders, promises [1.2] and [1.3], and [1] of both."""

import itertools
import unittest

from pasthall.errors import BadPaper, BadRow
from pasthall.kept import kept, ladder, ladder_holds
from tests.helpers import LINES, all_rows, chances, check_own, check_refused, own_lines, some_row

BAD_ROWS = (["A"], ["abcdefghi"], [""] * 41, ["a", "a b"], ["a\n"], ["a1"])


def all_pair_lists(old, new, i=0, j=0):
    """All lists of pairs of two rows from two places on, by trying."""
    lists = [[]]
    for a in range(i, len(old)):
        for b in range(j, len(new)):
            if old[a] == new[b]:
                lists.extend([[(a, b)] + rest for rest in all_pair_lists(old, new, a + 1, b + 1)])
    return lists


def best(lists):
    """The first one of the longest."""
    return min(lists, key=lambda pairs: (-len(pairs), pairs))


def best_pairs(old, new):
    """The kept pairs of longer rows: the best of each two ends, from behind."""
    table = {}
    for i in range(len(old), -1, -1):
        for j in range(len(new), -1, -1):
            lists = [[]]
            if i < len(old):
                lists.append(table[i + 1, j])
            if j < len(new):
                lists.append(table[i, j + 1])
            if i < len(old) and j < len(new) and old[i] == new[j]:
                lists.append([(i, j)] + table[i + 1, j + 1])
            table[i, j] = best(lists)
    return table[0, 0]


def height(rung, x):
    return len([number for number in rung if number <= x])


def holds(old, new, rungs):
    """[1.3] word by word."""
    for i in range(len(old)):
        for x in range(-1, len(new) + 2):
            if height(rungs[i + 1], x) < height(rungs[i], x):
                return False
        for j in range(len(new)):
            if new[j] == old[i] and height(rungs[i + 1], j + 1) < height(rungs[i], j) + 1:
                return False
    return True


def all_rungs(most):
    numbers = range(1, most + 1)
    return [list(rung) for many in range(most + 1) for rung in itertools.combinations(numbers, many)]


def all_ladders(old, new):
    return [[[]] + [list(rung) for rung in rungs]
            for rungs in itertools.product(all_rungs(len(new)), repeat=len(old))]


def long_rows():
    """Pairs of rows of many lines, forty among them."""
    pairs = [(own_lines(40), own_lines(40)), (own_lines(40), own_lines(40)[::-1]), (["a"] * 40, ["a"] * 40),
             ([""] * 40, ["a"] * 40), (["a", "b"] * 20, ["b", "a"] * 20), (["a"] * 40, []), ([], ["a"] * 40),
             (["a", "b", ""] * 13 + ["a"], ["", "b"] * 20), (["a"] * 40, ["b"] * 39 + ["a"]),
             (own_lines(40), own_lines(40)[20:] + own_lines(20))]
    for chance in chances(1, 40):
        pairs.append((some_row(chance), some_row(chance)))
    for chance in chances(2, 10):
        pairs.append(([chance.choice(LINES) for i in range(40)], [chance.choice(LINES) for i in range(40)]))
    return pairs


class Kept(unittest.TestCase):
    def test_plain_rows(self):
        self.assertEqual(kept(["a", "b", "c"], ["a", "c"]), [(0, 0), (2, 1)])
        self.assertEqual(kept(["a", "b"], ["b", "a"]), [(0, 1)])
        self.assertEqual(kept(["a"], ["a", "a"]), [(0, 0)])
        self.assertEqual(kept(["a", "a"], ["a"]), [(0, 0)])
        self.assertEqual(kept(["", "a"], ["a", ""]), [(0, 1)])
        self.assertEqual(kept([], ["a"]), [])
        self.assertEqual(kept(["a"], []), [])
        self.assertEqual(kept([], []), [])

    def test_the_first_of_the_longest_against_all_lists(self):
        rows = all_rows(LINES, 3)
        for old in rows:
            for new in rows:
                self.assertEqual(kept(old, new), best(all_pair_lists(old, new)), (old, new))

    def test_longer_rows_of_two_lines_against_all_lists(self):
        rows = all_rows(("", "a"), 5)
        for old in rows:
            for new in rows[::3]:
                self.assertEqual(kept(old, new), best(all_pair_lists(old, new)), (old, new))

    def test_rows_of_many_lines(self):
        for old, new in long_rows():
            self.assertEqual(kept(old, new), best_pairs(old, new), (old, new))

    def test_a_row_with_itself(self):
        for row in (own_lines(40), ["a"] * 40, ["", "a"] * 20, []):
            self.assertEqual(kept(row, list(row)), [(i, i) for i in range(len(row))])
            self.assertEqual(kept(row, row), [(i, i) for i in range(len(row))])

    def test_places_rise_and_lines_are_alike(self):
        for old, new in long_rows():
            pairs = kept(old, new)
            for i, j in pairs:
                self.assertEqual(old[i], new[j])
            for ahead, pair in zip(pairs, pairs[1:]):
                self.assertLess(ahead[0], pair[0])
                self.assertLess(ahead[1], pair[1])

    def test_a_list_of_tuples_of_whole_numbers(self):
        for old, new in long_rows():
            pairs = kept(old, new)
            self.assertIs(type(pairs), list)
            for pair in pairs:
                self.assertIs(type(pair), tuple)
                self.assertEqual([type(place) for place in pair], [int, int])

    def test_what_is_no_row(self):
        for bad in BAD_ROWS:
            check_refused(self, BadRow, kept, bad, ["a"])
            check_refused(self, BadRow, kept, ["a"], bad)
            check_refused(self, BadRow, kept, bad, bad)
            check_refused(self, BadRow, kept, bad, [])
            check_refused(self, BadRow, kept, [], bad)

    def test_what_is_told_is_the_askers_own(self):
        check_own(self, kept, ["a", "b", "a"], ["b", "a", "a"])
        check_own(self, kept, [], [])
        check_own(self, kept, own_lines(40), own_lines(40))


class Ladder(unittest.TestCase):
    def check_told(self, old, new):
        rungs = ladder(old, new)
        self.assertIs(type(rungs), list)
        self.assertEqual(len(rungs), len(old) + 1)
        self.assertEqual(rungs[0], [])
        for rung in rungs:
            self.assertIs(type(rung), list)
            self.assertTrue(all(type(number) is int for number in rung))
            self.assertEqual(rung, sorted(set(rung)))
            self.assertTrue(all(1 <= number <= len(new) for number in rung))
        self.assertTrue(holds(old, new, rungs), (old, new, rungs))
        self.assertIs(ladder_holds(old, new, rungs), True)
        self.assertEqual(len(rungs[-1]), len(best_pairs(old, new)))
        self.assertEqual(len(rungs[-1]), len(kept(old, new)))

    def test_small_rows(self):
        rows = all_rows(LINES, 3)
        for old in rows:
            for new in rows:
                self.check_told(old, new)

    def test_rows_of_many_lines(self):
        for old, new in long_rows():
            self.check_told(old, new)

    def test_what_is_no_row(self):
        for bad in BAD_ROWS:
            check_refused(self, BadRow, ladder, bad, ["a"])
            check_refused(self, BadRow, ladder, ["a"], bad)
            check_refused(self, BadRow, ladder, bad, [])
            check_refused(self, BadRow, ladder, [], bad)

    def test_what_is_told_is_the_askers_own(self):
        check_own(self, ladder, ["a", "b", "a"], ["b", "a", "a"])
        check_own(self, ladder, ["a", "b", "c"], [])
        check_own(self, ladder, ["a", "a", "a"], ["b", "b"])
        check_own(self, ladder, ["a", "b", "b", "b"], ["a"])
        check_own(self, ladder, [], [])
        check_own(self, ladder, own_lines(40), own_lines(40)[::-1])


class LadderHolds(unittest.TestCase):
    def test_all_ladders_of_small_rows(self):
        rows = all_rows(LINES, 2)
        for old in rows:
            for new in rows:
                for rungs in all_ladders(old, new):
                    self.assertIs(ladder_holds(old, new, rungs), holds(old, new, rungs), (old, new, rungs))

    def test_all_ladders_of_rows_of_three_lines(self):
        rows = all_rows(("", "a"), 3)
        for old in rows:
            for new in rows:
                if len(old) < 3 or len(new) < 3 or old[0] == "":
                    for rungs in all_ladders(old, new):
                        self.assertIs(ladder_holds(old, new, rungs), holds(old, new, rungs), (old, new, rungs))

    def test_no_list_of_pairs_is_longer_than_the_last_rung(self):
        rows = all_rows(LINES, 2)
        for old in rows:
            for new in rows:
                for rungs in all_ladders(old, new):
                    if ladder_holds(old, new, rungs):
                        self.assertGreaterEqual(len(rungs[-1]), len(best(all_pair_lists(old, new))))

    def test_rungs_that_are_higher_than_they_need_be(self):
        for old, new in ((["a"] * 40, ["b"] * 40), (own_lines(40), own_lines(40)), (["a"], ["a", "a"])):
            full = list(range(1, len(new) + 1))
            self.assertIs(ladder_holds(old, new, [[]] + [list(full) for line in old]), True)

    def test_a_rung_lower_than_the_one_ahead(self):
        self.assertIs(ladder_holds(["a", "b"], ["a", "c"], [[], [1], [1]]), True)
        self.assertIs(ladder_holds(["a", "b"], ["a", "c"], [[], [1], [2]]), False)
        self.assertIs(ladder_holds(["a", "b"], ["a", "c"], [[], [1], []]), False)
        # Lower at the last number alone.
        self.assertIs(ladder_holds(["c", "d"], ["a", "b"], [[], [1, 2], [1]]), False)

    def test_a_pair_that_is_not_reckoned(self):
        self.assertIs(ladder_holds(["a"], ["a"], [[], []]), False)
        self.assertIs(ladder_holds(["a"], ["a", "b"], [[], [2]]), False)
        self.assertIs(ladder_holds(["a"], ["b", "a"], [[], [2]]), True)
        self.assertIs(ladder_holds(["a"], ["b", "a"], [[], [1]]), True)
        self.assertIs(ladder_holds(["a", "b"], ["a", "b"], [[], [1], [1]]), False)
        self.assertIs(ladder_holds(["", ""], ["", ""], [[], [1], [1, 2]]), True)

    def test_rows_of_many_lines_place_by_place(self):
        for number, (old, new) in enumerate(long_rows()):
            chance = chances(3, number + 1)[number]
            for turn in range(25):
                rungs = ladder(old, new)
                for spoilt in range(chance.randint(1, 2)):
                    self.change_a_rung(chance, rungs, len(new))
                self.assertIs(ladder_holds(old, new, rungs), holds(old, new, rungs), (old, new, rungs))

    def change_a_rung(self, chance, rungs, most):
        if len(rungs) == 1 or most == 0:
            return
        place = chance.randrange(1, len(rungs))
        number = chance.randint(1, most)
        rungs[place] = sorted(set(rungs[place]) ^ {number})

    def test_just_one_number_less_anywhere(self):
        for row in (own_lines(40), ["a"] * 40):
            for place in range(1, 41):
                rungs = ladder(row, row)
                rungs[place].pop()
                self.assertIs(ladder_holds(row, row, rungs), False, place)

    def test_what_is_no_ladder(self):
        old, new = ["a", "b"], ["a", "c", "b"]
        self.assertIs(ladder_holds(old, new, [[], [1], [1, 3]]), True)
        bad = ([], [[]], [[], [1]], [[], [1], [1, 3], [1, 3]], [[], [1], [1, 3], []],
               [[], [0], [1, 3]], [[], [-1], [1, 3]], [[], [0, 1], [1, 3]], [[], [1], [1, 4]], [[], [4], [1, 3]],
               [[], [1], [3, 1]], [[], [1, 1], [1, 3]], [[], [1], [1, 3, 3]], [[], [1], [1, 3, 2]],
               [[1], [1], [1, 3]], [[1, 2, 3], [1, 2, 3], [1, 2, 3]], [[0], [1], [1, 3]],
               [[], [], [4]], [[], [], [2, 1]], [[], [], [0]])
        for rungs in bad:
            check_refused(self, BadPaper, ladder_holds, old, new, rungs)

    def test_what_is_no_ladder_of_rows_without_lines(self):
        self.assertIs(ladder_holds([], [], [[]]), True)
        self.assertIs(ladder_holds([], ["a"], [[]]), True)
        self.assertIs(ladder_holds(["a"], [], [[], []]), True)
        check_refused(self, BadPaper, ladder_holds, [], [], [])
        check_refused(self, BadPaper, ladder_holds, [], [], [[], []])
        check_refused(self, BadPaper, ladder_holds, [], ["a"], [[1]])
        check_refused(self, BadPaper, ladder_holds, ["a"], [], [[], [1]])
        check_refused(self, BadPaper, ladder_holds, ["a"], [], [[], [0]])

    def test_what_is_no_ladder_of_rows_of_forty_lines(self):
        row = own_lines(40)
        for place in range(41):
            for numbers in ([41], [0], [40, 40], [40, 39]):
                rungs = ladder(row, row)
                rungs[place] = numbers
                check_refused(self, BadPaper, ladder_holds, row, row, rungs)
        check_refused(self, BadPaper, ladder_holds, row, row, ladder(row, row)[:-1])
        check_refused(self, BadPaper, ladder_holds, row, row, ladder(row, row) + [list(range(1, 41))])

    def test_a_ladder_that_is_refused_though_it_fails_earlier(self):
        # The form is asked of the whole ladder, ahead of whether it holds.
        check_refused(self, BadPaper, ladder_holds, ["a", "b"], ["a", "b"], [[], [], [3]])
        check_refused(self, BadPaper, ladder_holds, ["a", "b"], ["a", "b"], [[], [], [2, 2]])

    def test_what_is_no_row_goes_ahead(self):
        for bad in BAD_ROWS:
            for rungs in ([], [[]], [[], [1]], [[1], [7]]):
                check_refused(self, BadRow, ladder_holds, bad, ["a"], rungs)
                check_refused(self, BadRow, ladder_holds, ["a"], bad, rungs)
                check_refused(self, BadRow, ladder_holds, bad, bad, rungs)

    def test_nothing_is_changed(self):
        check_own(self, ladder_holds, ["a", "b"], ["a", "b"], [[], [1], [1, 2]])
        check_own(self, ladder_holds, ["a", "b"], ["a", "b"], [[], [1], [1]])


if __name__ == "__main__":
    unittest.main()
