"""Two edits passed, promise [1.8], and [1] of it."""

import collections
import unittest

from pasthall.edits import applied, is_edit
from pasthall.errors import BadEdit, NoFit
from pasthall.passing import passed
from tests.helpers import (BAD_EDITS, after, chances, check_own, check_refused, done, lines_of, own_line, own_lines,
                           rows_of_both, shared_lines, small_edits, some_edit, some_pairs, some_row)


class Passed(unittest.TestCase):
    def check_passed(self, first, second):
        """Told is what [1.8] asks: "apart" no row for both, "together", "long" no room, or "passed"."""
        rows = rows_of_both(first, second)
        if not rows:
            check_refused(self, NoFit, passed, first, second)
            return "apart"
        if shared_lines(first, second):
            self.assertIsNone(passed(first, second), (first, second))
            return "together"
        more = len(lines_of("put", second)) - len(lines_of("take", second))
        if min(len(row) for row in rows) + more > 40:
            check_refused(self, NoFit, passed, first, second)
            return "long"
        self.check_told(first, second, rows, more)
        return "passed"

    def check_told(self, first, second, rows, more):
        told = passed(first, second)
        self.assertIs(type(told), tuple)
        self.assertEqual([type(part) for part in told], [list, list])
        ahead, later = told
        for one, same in ((ahead, second), (later, first)):
            self.assertIs(is_edit(one), True, (first, second, told))
            self.assertTrue(all(type(deed) is tuple for deed in one))
            for word in ("put", "take"):
                self.assertEqual(lines_of(word, one), lines_of(word, same), (first, second, told))
        for row in rows:
            if len(row) + more > 40:
                check_refused(self, NoFit, applied, row, ahead)
            else:
                come = applied(applied(row, ahead), later)
                self.assertEqual(come, after(after(row, first), second), (row, first, second, told))
                between = done(list(range(len(row))), ahead)[0]
                taken = [cell for cell, line in done(between, later)[1]]
                self.assertFalse([cell for cell in taken if isinstance(cell, tuple)], (first, second, told))

    def test_plain_edits(self):
        put, take = [("put", 0, "a")], [("take", 0, "a")]
        self.assertIsNone(passed(put, take))
        self.assertEqual(passed([], []), ([], []))
        self.assertEqual(passed([], put), (put, []))
        self.assertEqual(passed(take, []), ([], take))
        self.assertEqual(passed(take, take), ([("take", 1, "a")], [("take", 0, "a")]))
        self.assertEqual(passed(put, [("take", 1, "b")]), ([("take", 0, "b")], [("put", 0, "a")]))
        self.assertEqual(passed(put, [("put", 1, "b")]), ([("put", 0, "b")], [("put", 0, "a")]))
        self.assertEqual(passed(put, [("put", 0, "b")]), ([("put", 0, "b")], [("put", 1, "a")]))
        check_refused(self, NoFit, passed, put, [("take", 0, "b")])

    def test_lines_put_beside_one_another(self):
        for where in range(5):
            first = [("put", 1, "a"), ("put", 1, "b"), ("take", 1, "c"), ("put", 2, "d")]
            self.assertEqual(self.check_passed(first, [("put", where, "x"), ("put", where, "y")]), "passed")

    def test_one_line_of_many_hangs_together(self):
        puts = [("put", 0, own_line(place)) for place in range(10)]
        for place in range(10):
            self.assertIsNone(passed(puts, [("take", place, own_line(place))]))
            self.assertIsNone(passed(puts, [("put", 0, "a"), ("take", place, own_line(place)), ("take", 10, "b")]))
            # Another line there: they don't follow, also where a line hangs together elsewhere.
            check_refused(self, NoFit, passed, puts, [("take", place, "a")])
        check_refused(self, NoFit, passed, puts, [("take", 0, own_line(0)), ("take", 1, "a")])
        check_refused(self, NoFit, passed, puts, [("take", 0, "a"), ("take", 1, own_line(1))])
        self.assertEqual(self.check_passed(puts, [("take", 10, "b")]), "passed")

    def test_small_edits(self):
        edits = small_edits()
        answers = collections.Counter()
        for chance in chances(21, 3000):
            answers[self.check_passed(chance.choice(edits), chance.choice(edits))] += 1
        self.assertGreater(min(answers[name] for name in ("apart", "together", "passed")), 100, answers)

    def test_edits_that_follow_by_chance(self):
        answers = collections.Counter()
        for first, second in some_pairs(22, 500):
            answers[self.check_passed(first, second)] += 1
        self.assertGreater(min(answers["together"], answers["passed"]), 50, answers)

    def test_edits_that_do_not_hang_together_by_chance(self):
        answers = collections.Counter()
        for chance in chances(23, 400):
            row = some_row(chance, chance.choice((5, 40)), ("a",))
            first = some_edit(chance, row, 40, chance.randint(1, 9), ("b",))
            if chance.randrange(2):
                first = [deed for deed in first if deed[0] == "take"]
            between = after(row, first)
            second = some_edit(chance, between, 40 + between.count("b"), chance.randint(1, 9), ("c",))
            second = [deed for deed in second if deed[0] == "put" or deed[2] == "a"]
            # Too long a row may come of it: then they don't follow.
            if is_edit(second):
                answers[self.check_passed(first, second)] += 1
        self.assertGreater(min(answers["long"], answers["passed"]), 20, answers)
        self.assertGreater(answers["apart"], 0, answers)

    def test_where_no_row_stays_short_enough(self):
        for many in range(1, 41):
            takes = [("take", place, "a") for place in range(many)]
            answers = [self.check_passed(takes, [("put", 0, "b")] * puts) for puts in range(41)]
            self.assertEqual(answers, ["passed"] * (41 - many) + ["long"] * many)
        # The second one by itself is an edit, but each row that the first one fits has forty lines already.
        check_refused(self, NoFit, passed, [("take", 39, "a")], [("put", 0, "b")])
        self.assertEqual(self.check_passed([("take", 38, "a")], [("put", 0, "b")]), "passed")
        self.assertEqual(self.check_passed([("take", 39, "a")], [("put", 0, "b"), ("take", 0, "a")]), "passed")

    def test_where_they_do_not_follow(self):
        for many in range(1, 40):
            takes = [("take", place, "a") for place in range(many)]
            self.assertEqual(self.check_passed(takes, [("take", 39 - many, "b")]), "passed")
            self.assertEqual(self.check_passed(takes, [("take", 40 - many, "b")]), "apart")
            self.assertEqual(self.check_passed([("put", 0, "a")] * many, [("put", 0, "b")] * (40 - many)), "passed")
            self.assertEqual(self.check_passed([("put", 0, "a")] * many, [("put", 0, "b")] * (41 - many)), "apart")

    def test_edits_of_many_deeds_on_forty_lines(self):
        first = [("take", place, own_line(place)) for place in range(0, 40, 2)] + [("put", 40, "b")] * 20
        second = [("take", place, own_line(2 * place + 1)) for place in range(20)] + [("put", 20, "c")] * 20
        self.assertEqual(self.check_passed(first, second), "passed")
        ahead, later = passed(first, second)
        self.assertEqual(applied(applied(own_lines(40), ahead), later), ["c"] * 20 + ["b"] * 20)
        takes = [("take", place, own_line(place)) for place in range(40)]
        self.assertEqual(self.check_passed(takes + [("put", 40, "b")] * 40, [("take", 39, "b")]), "together")
        self.assertEqual(self.check_passed(takes, [("put", 0, "b")] * 40), "long")
        self.assertEqual(self.check_passed([("put", 0, "b")] * 20, [("put", 10, "c")] * 20), "passed")

    def test_what_is_no_edit_goes_ahead(self):
        for deeds in BAD_EDITS:
            for other in ([], [("put", 0, "a")], [("take", 39, "a")], [("put", 0, "a")] * 40):
                check_refused(self, BadEdit, passed, deeds, other)
                check_refused(self, BadEdit, passed, other, deeds)
            check_refused(self, BadEdit, passed, deeds, deeds)

    def test_what_is_told_is_the_askers_own(self):
        check_own(self, passed, [("put", 1, "x"), ("take", 1, "b")], [("take", 0, "x"), ("put", 2, "z")])
        check_own(self, passed, [], [("put", 0, "a")])
        check_own(self, passed, [("put", 0, "a")], [])
        check_own(self, passed, [], [])
        check_own(self, passed, [("put", 0, "a")], [("take", 0, "a")])


if __name__ == "__main__":
    unittest.main()
