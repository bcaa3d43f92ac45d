"""Contrary tables, promises [5.6] and [5.7], and [1] of them."""

import itertools
import unittest

from pasthall.asking import fewest, suspects
from pasthall.bound import contrary, contrary_holds
from pasthall.errors import BadWeb, NoAsking, NoVersion
from tests.helpers import (BAD_WEBS, NO_KNOWN, all_webs, chances, check_own, check_refused, dense_web,
                           fewest_by_words, line_web, set_above, some_known, some_web, suspects_by_words)

CROSSED = [(), (0,), (0,), (1, 2), (1, 2), (), (3, 4)]
THREE = [(), (), (), (0, 1, 2)]
APART = [()] * 7 + [(0, 1, 2), (3, 4, 5), (6, 7, 8)]
# No plan with two askings finds one of the four of THREE: each asking leaves three, and no one asking parts three.
TABLE = [((0, 1, 2, 3), 3), ((1, 2, 3), 2), ((0, 2, 3), 2), ((0, 1, 3), 2), ((2, 3), 1), ((1, 3), 1), ((0, 3), 1)]


def row_by_words(web, table, group, number):
    """[5.6] word by word, for one row of a table that has the right form."""
    if number == 0:
        return True
    if len(group) < 2:
        return False
    if number == 1:
        return True
    for version in range(len(web)):
        bad = tuple(suspect for suspect in group if suspect in set_above(web, version))
        good = tuple(suspect for suspect in group if suspect not in bad)
        if not any(left == part and many >= number - 1 for left, many in table for part in (good, bad)):
            return False
    return True


def holds_by_words(web, bad, goods, many, table):
    """[5.6] word by word."""
    found = suspects_by_words(web, bad, goods)
    for group, number in table:
        if number < 0 or not group or list(group) != sorted(set(group)) or not set(group) <= set(found):
            return False
    if not any(list(group) == found and number == many for group, number in table):
        return False
    return all(row_by_words(web, table, group, number) for group, number in table)


def spoilt_group(chance, group, numbers):
    """A tuple of suspects with one left out, put in, put twice, put otherwise, or two of them changed about."""
    numbers, group = list(numbers), list(group)
    turn = chance.randrange(5)
    place = chance.randrange(len(group))
    if turn == 0:
        group.pop(place)
    elif turn == 1:
        group = sorted(group + [chance.choice(numbers)])
    elif turn == 2:
        group.insert(place, group[place])
    elif turn == 3:
        group[place] = chance.choice(numbers)
    else:
        group.append(group.pop(place))
    return tuple(group)


def spoilt_table(chance, table, numbers):
    """A table with one row left out, put in or changed."""
    table = list(table)
    place = chance.randrange(len(table))
    group, number = table[place]
    turn = chance.randrange(5)
    if turn == 0:
        table.pop(place)
    elif turn == 1:
        table[place] = (group, number + 1)
    elif turn == 2:
        table[place] = (group, number - 1)
    elif turn == 3:
        table[place] = (spoilt_group(chance, group, numbers), number)
    else:
        table.insert(place, (spoilt_group(chance, group, numbers), chance.choice((-1, 0, 1, number))))
    return table


class Contrary(unittest.TestCase):
    def check_tables(self, web, bad, goods, many):
        """There is a table of each number from nought to the fewest askings, and of no other."""
        for number in range(many + 1):
            table = contrary(web, bad, goods, number)
            self.assertIs(type(table), list)
            for row in table:
                self.assertEqual([type(row), type(row[0]), type(row[1])], [tuple, tuple, int])
            self.assertTrue(holds_by_words(web, bad, goods, number, table), (web, bad, goods, number, table))
            self.assertIs(contrary_holds(web, bad, goods, number, table), True)
            for other in range(-2, many + 3):
                if other != number:
                    expected = holds_by_words(web, bad, goods, other, table)
                    self.assertIs(contrary_holds(web, bad, goods, other, table), expected)
        for number in (-1, -2, -100, many + 1, many + 2, many + 100):
            check_refused(self, NoAsking, contrary, web, bad, goods, number)

    def test_of_one_suspect(self):
        self.check_tables([()], 0, [], 0)
        self.check_tables(CROSSED, 6, [3, 4], 0)
        self.assertEqual(contrary([()], 0, [], 0), [((0,), 0)])

    def test_of_two_suspects(self):
        self.check_tables(line_web(2), 1, [], 1)
        self.check_tables(CROSSED, 6, [3], 1)

    def test_of_more(self):
        self.check_tables(THREE, 3, [], 3)
        self.check_tables(THREE + [(0, 1)], 3, [], 2)
        self.check_tables(CROSSED, 6, [], fewest_by_words(CROSSED, [0, 1, 2, 3, 4, 6]))
        self.check_tables(APART, 9, [], fewest_by_words(APART, list(range(10))))

    def test_one_behind_the_other(self):
        for many, askings in zip(range(1, 11), (0, 1, 2, 2, 3, 3, 3, 3, 4, 4)):
            self.check_tables(line_web(many), many - 1, [], askings)
            self.check_tables(line_web(40), 39, [39 - many], askings)

    def test_at_all_small_webs(self):
        for web in all_webs(4):
            for bad, goods in itertools.product(range(len(web)), ([], [0], [len(web) - 1])):
                found = suspects_by_words(web, bad, goods)
                if found:
                    self.check_tables(web, bad, goods, fewest_by_words(web, found))

    def test_by_chance(self):
        seen = {}
        for chance in chances(80, 120):
            web = some_web(chance, chance.choice((7, 10, 14, 40)))
            bad, goods = some_known(chance, web)
            found = suspects_by_words(web, bad, goods)
            if 1 <= len(found) <= 10:
                many = fewest_by_words(web, found)
                self.check_tables(web, bad, goods, many)
                seen[many] = seen.get(many, 0) + 1
        self.assertGreaterEqual(set(seen), {0, 1, 2, 3, 4})

    def test_great_webs(self):
        triples = [triple for triple in itertools.combinations(range(7), 3) if triple not in APART]
        web = APART + triples[:30]
        self.assertEqual(len(web), 40)
        self.check_tables(web, 9, [], fewest_by_words(web, list(range(10))))

    def test_refused(self):
        for many in (-1, 0, 1, 100):
            for web in BAD_WEBS:
                for bad, goods in ((0, []), (0, [0])) + NO_KNOWN:
                    check_refused(self, BadWeb, contrary, web, bad, goods, many)
            for web in ([()], line_web(11), dense_web()):
                for bad, goods in NO_KNOWN + ((len(web), []), (len(web) - 1, [len(web)]), (-len(web), [])):
                    check_refused(self, NoVersion, contrary, web, bad, goods, many)
            for web, bad, goods in (([()], 0, [0]), (CROSSED, 3, [6]), (line_web(11), 10, []), (dense_web(), 39, [])):
                check_refused(self, NoAsking, contrary, web, bad, goods, many)


class ContraryHolds(unittest.TestCase):
    def check(self, web, bad, goods, many, table, expected):
        self.assertIs(holds_by_words(web, bad, goods, many, table), expected, (web, bad, goods, many, table))
        self.assertIs(contrary_holds(web, bad, goods, many, table), expected, (web, bad, goods, many, table))

    def test_one_that_holds(self):
        self.check(THREE, 3, [], 3, TABLE, True)
        self.check(THREE, 3, [], 3, TABLE[::-1], True)
        self.check(THREE, 3, [], 3, TABLE + TABLE, True)

    def test_rows_left_out(self):
        for place in range(len(TABLE)):
            self.check(THREE, 3, [], 3, TABLE[:place] + TABLE[place + 1:], False)
        self.check(THREE, 3, [], 3, [], False)
        self.check(THREE, 3, [], 0, [], False)

    def test_numbers_one_more_or_less(self):
        for place, (group, number) in enumerate(TABLE):
            for other in (number + 1, number - 1, -number):
                self.check(THREE, 3, [], 3, TABLE[:place] + [(group, other)] + TABLE[place + 1:], False)

    def test_rows_put_in(self):
        for row in (((0, 1), 0), ((0, 1), 1), ((0,), 0), ((0, 1, 2, 3), 2), ((1, 2), 1), ((2, 3), 0),
                    ((0, 1, 2, 3), 0)):
            self.check(THREE, 3, [], 3, TABLE + [row], True)
            self.check(THREE, 3, [], 3, [row] + TABLE, True)
        for row in (((0, 1), 2), ((0,), 1), ((3,), 5), ((0, 1, 2, 3), 4), ((2, 3), 2), ((0, 1, 2), 3), ((0,), -1),
                    ((), 0), ((), 1), ((1, 0), 0), ((0, 0), 0), ((0, 0), 1), ((4,), 0), ((-1,), 0), ((0, 1, 2, 3), -1),
                    ((-1, 0), 1), ((3, 4), 1), ((0, 1, 1), 0), ((2, 1, 3), 1)):
            self.check(THREE, 3, [], 3, TABLE + [row], False)
            self.check(THREE, 3, [], 3, [row] + TABLE, False)

    def test_suspects_left_out_put_in_or_changed_about(self):
        for place, (group, number) in enumerate(TABLE):
            for other in (group[1:], group[:-1], group + (4,), (-1,) + group, group[::-1], group + group[-1:],
                          group[:1] + group, (), (-4,) * len(group), group[1:] + group[:1]):
                self.check(THREE, 3, [], 3, TABLE[:place] + [(other, number)] + TABLE[place + 1:], False)

    def test_another_number_asked_for(self):
        for many in (-3, -1, 0, 1, 2, 4, 100):
            self.check(THREE, 3, [], many, TABLE, False)
        self.check(THREE, 3, [], 2, TABLE + [((0, 1, 2, 3), 2)], True)
        self.check(THREE, 3, [], 0, TABLE + [((0, 1, 2, 3), 0)], True)

    def test_small_numbers(self):
        self.check(line_web(2), 1, [], 0, [((0, 1), 0)], True)
        self.check(line_web(2), 1, [], 1, [((0, 1), 1)], True)
        self.check(line_web(2), 1, [], 0, [((0, 1), 1)], False)
        self.check(line_web(2), 1, [], 1, [((0, 1), 0)], False)
        self.check(line_web(2), 1, [], 2, [((0, 1), 2)], False)
        self.check(line_web(2), 1, [], 2, [((0, 1), 2), ((0,), 1), ((1,), 1)], False)
        self.check(line_web(2), 1, [], -1, [((0, 1), -1)], False)
        self.check([()], 0, [], 0, [((0,), 0)], True)
        self.check([()], 0, [], 1, [((0,), 1)], False)

    def test_a_greater_number_in_a_row_that_is_needed(self):
        # (1, 2, 3) stands there with 2, and with 1 or more it is enough.
        table = [((0, 1, 2, 3), 2), ((1, 2, 3), 2), ((0, 2, 3), 1), ((0, 1, 3), 1), ((2, 3), 1), ((1, 3), 1)]
        self.check(THREE, 3, [], 2, table, True)
        self.check(THREE, 3, [], 2, [row for row in table if row[0] != (1, 3)], False)

    def test_a_version_that_is_no_suspect_is_asked_too(self):
        web = THREE + [(0, 1)]
        self.check(web, 3, [], 3, TABLE, False)
        self.check(web, 3, [], 2, [((0, 1, 2, 3), 2), ((1, 2, 3), 1), ((0, 2, 3), 1), ((0, 1, 3), 1)], False)
        self.check(web, 3, [], 2, [((0, 1, 2, 3), 2), ((1, 2, 3), 1), ((0, 2, 3), 1), ((0, 1, 3), 1), ((0, 1), 1)],
                   True)

    def test_suspects_of_the_web_but_not_by_what_is_known(self):
        self.check(THREE, 3, [0], 2, [((1, 2, 3), 2), ((2, 3), 1), ((1, 3), 1)], True)
        self.check(THREE, 3, [0], 2, [((1, 2, 3), 2), ((2, 3), 1), ((1, 3), 1), ((0, 3), 1)], False)
        self.check(THREE, 3, [0], 3, TABLE, False)
        self.check(THREE, 3, [0], 2, TABLE, False)

    def test_where_there_are_no_suspects(self):
        for table in ([], [((), 0)], [((), 1)], [((0,), 0)], [((0, 1), 1)], [((), 0), ((0,), 0)]):
            for many in (-1, 0, 1):
                self.check(line_web(2), 0, [1], many, table, False)
                self.check([()], 0, [0], many, table, False)

    def test_more_suspects_than_ten(self):
        whole = tuple(range(40))
        for web in (line_web(40), dense_web()):
            self.check(web, 39, [], 0, [(whole, 0)], True)
            self.check(web, 39, [], 1, [(whole, 1)], True)
            self.check(web, 39, [], 2, [(whole, 2)], False)
        groups = [(start, end) for start in range(40) for end in range(start + 2, 41)]
        table = [(tuple(range(start, end)), (end - start - 1).bit_length()) for start, end in groups]
        self.assertEqual(len(table), 780)
        self.assertIs(contrary_holds(line_web(40), 39, [], 6, table), True)
        self.assertIs(contrary_holds(line_web(40), 39, [], 5, table), False)
        self.assertIs(contrary_holds(line_web(40), 39, [], 6, table[:-1] + [(table[-1][0], 2)]), False)

    def test_all_tables_of_few_rows(self):
        groups = [group for many in range(3) for group in itertools.product((-1, 0, 1, 2), repeat=many)]
        rows = [(group, number) for group in groups for number in range(-1, 3)]
        for web in ([(), (0,)], [(), (0,), (0,)]):
            for table in [[row] for row in rows] + [list(pair) for pair in itertools.product(rows, repeat=2)]:
                for many in (0, 1, 2):
                    self.assertIs(contrary_holds(web, 1, [], many, table), holds_by_words(web, 1, [], many, table))

    def test_tables_changed_by_chance(self):
        seen = {True: 0, False: 0}
        for chance in chances(81, 500):
            web = some_web(chance, chance.choice((5, 8, 12)))
            bad, goods = some_known(chance, web)
            if not 2 <= len(suspects(web, bad, goods)) <= 10:
                continue
            many = chance.randint(1, fewest(web, bad, goods))
            table = contrary(web, bad, goods, many)
            for turn in range(12):
                spoilt = spoilt_table(chance, table, range(-1, len(web) + 1))
                expected = holds_by_words(web, bad, goods, many, spoilt)
                self.assertIs(contrary_holds(web, bad, goods, many, spoilt), expected, (web, bad, goods, many, spoilt))
                seen[expected] += 1
        self.assertGreater(min(seen.values()), 50)

    def test_no_table_holds_for_more_than_the_fewest(self):
        # Of all groups with all numbers those are struck out that don't hold: what is left is the greatest table.
        for web in all_webs(4):
            bad = len(web) - 1
            found = suspects_by_words(web, bad, [])
            groups = [group for many in range(1, len(found) + 1) for group in itertools.combinations(found, many)]
            table = [(group, number) for group in groups for number in range(6)]
            left = [row for row in table if row_by_words(web, table, *row)]
            while left != table:
                table, left = left, [row for row in left if row_by_words(web, left, *row)]
            most = fewest_by_words(web, found)
            for many in range(-1, 7):
                self.check(web, bad, [], many, table, 0 <= many <= most)

    def test_refused(self):
        for many, table in ((0, []), (-1, [((0,), 0)]), (1, [((), -1)]), (3, TABLE)):
            for web in BAD_WEBS:
                for bad, goods in ((0, []),) + NO_KNOWN:
                    check_refused(self, BadWeb, contrary_holds, web, bad, goods, many, table)
            for web in ([()], THREE, dense_web()):
                for bad, goods in NO_KNOWN + ((len(web), []), (0, [0, len(web)]), (-len(web), [0])):
                    check_refused(self, NoVersion, contrary_holds, web, bad, goods, many, table)


class Own(unittest.TestCase):
    def test_what_is_told_is_the_askers_own(self):
        for many in range(4):
            check_own(self, contrary, list(THREE), 3, [], many)
            check_own(self, contrary_holds, list(THREE), 3, [], many, list(TABLE))
        check_own(self, contrary, list(CROSSED), 6, [5, 1], 2)


if __name__ == "__main__":
    unittest.main()
