"""Edits, promises [1.4] to [1.7], and [1] of them."""

import collections
import unittest

from pasthall.edits import applied, behind, edit, is_edit, turned
from pasthall.errors import BadEdit, BadRow, NoFit
from pasthall.kept import kept
from tests.helpers import (BAD_EDITS, LINES, after, all_rows, chances, check_own, check_refused, done, lines_of,
                           own_line, own_lines, rows_of_both, shared_lines, small_edits, some_edit, some_pairs,
                           some_row)

BAD_ROWS = (["A"], ["abcdefghi"], [""] * 41, ["a", "a b"], ["a\n"], ["a1"])


def edit_by_pairs(old, new):
    """[1.4] word by word, from the kept pairs."""
    pairs = kept(old, new)
    olds = [i for i, j in pairs]
    news = [j for i, j in pairs]
    deeds = []
    for place in range(len(old) + 1):
        for j, line in enumerate(new):
            if j not in news and min([i for i, k in pairs if k > j], default=len(old)) == place:
                deeds.append(("put", place, line))
        if place < len(old) and place not in olds:
            deeds.append(("take", place, old[place]))
    return deeds


def is_edit_by_rows(deeds):
    """[1.5] word by word: deeds in order, and a row of some length that they fit."""
    for word, place, line in deeds:
        if word not in ("take", "put") or len(line) > 8 or not set(line) <= set("abcdefghijklmnopqrstuvwxyz"):
            return False
    for ahead, deed in zip(deeds, deeds[1:]):
        if deed[1] < ahead[1] or deed[1] == ahead[1] and ahead[0] == "take":
            return False
    comes = [done(list(range(length)), deeds) for length in range(41)]
    return any(come is not None and len(come[0]) <= 40 for come in comes)


def some_deeds(chance):
    """Deeds by chance, about as often an edit as not."""
    deeds = some_edit(chance, some_row(chance, chance.choice((2, 10, 40))), 40, chance.randint(1, 8))
    for turn in range(chance.choice((0, 1, 1, 2))):
        place = chance.randint(0, len(deeds))
        deed = (chance.choice(("take", "put")), chance.choice((-1, 0, 1, 2, 20, 38, 39, 40, 41)), "a")
        deeds.insert(place, deed)
        if chance.randrange(2):
            deeds = sorted(deeds, key=lambda deed: (deed[1], deed[0] == "take"))
    return deeds


class Edit(unittest.TestCase):
    def test_plain_rows(self):
        self.assertEqual(edit(["a", "b", "c"], ["a", "c", "d"]), [("take", 1, "b"), ("put", 3, "d")])
        self.assertEqual(edit(["a"], ["b"]), [("take", 0, "a"), ("put", 1, "b")])
        self.assertEqual(edit(["b"], ["a", "a", "b"]), [("put", 0, "a"), ("put", 0, "a")])
        self.assertEqual(edit([], ["a", "b"]), [("put", 0, "a"), ("put", 0, "b")])
        self.assertEqual(edit(["a", ""], []), [("take", 0, "a"), ("take", 1, "")])
        self.assertEqual(edit(["x", "k", "y"], ["p", "k", "q"]),
                         [("take", 0, "x"), ("put", 1, "p"), ("take", 2, "y"), ("put", 3, "q")])

    def check_edit(self, old, new):
        deeds = edit(old, new)
        self.assertEqual(deeds, edit_by_pairs(old, new), (old, new))
        self.assertIs(is_edit(deeds), True)
        self.assertEqual(applied(old, deeds), new)

    def test_small_rows_line_by_line(self):
        rows = all_rows(LINES, 3)
        for old in rows:
            for new in rows:
                self.check_edit(old, new)

    def test_rows_of_many_lines(self):
        self.check_edit(own_lines(40), [""] * 40)
        self.check_edit(own_lines(40), own_lines(40)[::-1])
        self.check_edit(["a", "b"] * 20, ["b", "a"] * 20)
        self.check_edit([], own_lines(40))
        self.check_edit(own_lines(40), [])
        for chance in chances(11, 80):
            self.check_edit(some_row(chance), some_row(chance))

    def test_a_row_to_itself_has_no_deeds(self):
        for row in (["a"] * 40, own_lines(40), [], ["", "a", ""]):
            self.assertEqual(edit(row, list(row)), [])

    def test_a_list_of_tuples(self):
        deeds = edit(own_lines(20), own_lines(40)[10:])
        self.assertIs(type(deeds), list)
        for deed in deeds:
            self.assertIs(type(deed), tuple)
            self.assertEqual([type(part) for part in deed], [str, int, str])

    def test_what_is_no_row(self):
        for bad in BAD_ROWS:
            check_refused(self, BadRow, edit, bad, ["a"])
            check_refused(self, BadRow, edit, ["a"], bad)
            check_refused(self, BadRow, edit, bad, bad)

    def test_what_is_told_is_the_askers_own(self):
        check_own(self, edit, ["a", "b", "a"], ["b", "a", "a", "c"])
        check_own(self, edit, ["a"], ["a"])
        check_own(self, edit, own_lines(40), [""] * 40)


class IsEdit(unittest.TestCase):
    def check_is(self, truth, deeds):
        self.assertIs(is_edit_by_rows(deeds), truth, deeds)
        self.assertIs(is_edit(deeds), truth, deeds)

    def test_edits(self):
        for deeds in ([], [("take", 0, "a")], [("put", 0, "")], [("put", 0, "b"), ("take", 0, "a")],
                      [("put", 5, "b"), ("put", 5, "a"), ("take", 5, "a"), ("put", 6, "a")],
                      [("take", 39, "a")], [("put", 39, "a")], [("take", 0, "a"), ("put", 40, "b")],
                      [("take", 39, "a"), ("put", 40, "b")], [("put", 0, "abcdefgh")]):
            self.check_is(True, deeds)

    def test_what_is_none(self):
        for deeds in BAD_EDITS:
            self.check_is(False, deeds)

    def test_a_bad_deed_behind_good_ones(self):
        for deeds in BAD_EDITS:
            if len(deeds) == 1:
                self.check_is(False, [("put", 0, "a")] + deeds)
                self.check_is(False, deeds + [("put", 40, "a"), ("take", 40, "a")])

    def test_as_many_puts_as_a_row_can_hold(self):
        for place in range(41):
            self.check_is(True, [("put", place, "a")] * (40 - place))
            self.check_is(False, [("put", place, "a")] * (41 - place))
        takes = [("take", place, "a") for place in range(40)]
        self.check_is(True, takes)
        self.check_is(True, takes + [("put", 40, "b")] * 40)
        self.check_is(False, takes + [("put", 40, "b")] * 41)
        self.check_is(True, [("put", 0, "b")] * 40 + takes)
        self.check_is(False, [("put", 0, "b")] * 41 + takes)
        self.check_is(False, [("put", 0, "b")] * 40 + takes[1:])
        self.check_is(True, [("put", 0, "b")] * 39 + takes[1:])
        self.check_is(True, [("take", 39, "a"), ("put", 40, "b")])
        self.check_is(False, [("put", 0, "b"), ("take", 39, "a"), ("put", 40, "b")])

    def test_by_chance(self):
        answers = collections.Counter()
        for chance in chances(12, 3000):
            deeds = some_deeds(chance)
            answers[is_edit(deeds)] += 1
            self.assertIs(is_edit(deeds), is_edit_by_rows(deeds), deeds)
        self.assertGreater(min(answers[True], answers[False]), 500)

    def test_nothing_is_changed(self):
        for deeds in ([("put", 0, "b"), ("take", 0, "a")], [("put", 1, "b"), ("put", 0, "a")], [("move", 0, "a")]):
            check_own(self, is_edit, deeds)


class Applied(unittest.TestCase):
    def test_plain_edits(self):
        row = ["a", "b", "c"]
        self.assertEqual(applied(row, []), ["a", "b", "c"])
        self.assertEqual(applied(row, [("put", 0, "x"), ("put", 0, "y")]), ["x", "y", "a", "b", "c"])
        self.assertEqual(applied(row, [("put", 3, "x"), ("put", 3, "y")]), ["a", "b", "c", "x", "y"])
        self.assertEqual(applied(row, [("put", 1, "x"), ("take", 1, "b"), ("put", 2, "y")]), ["a", "x", "y", "c"])
        self.assertEqual(applied(row, [("take", 0, "a"), ("take", 1, "b"), ("take", 2, "c")]), [])
        self.assertEqual(applied([], [("put", 0, "")]), [""])

    def test_by_chance(self):
        for chance in chances(13, 500):
            row = some_row(chance)
            deeds = some_edit(chance, row, 40, chance.randint(1, 8))
            self.assertEqual(applied(row, deeds), after(row, deeds))

    def test_rows_of_forty_lines(self):
        row = own_lines(40)
        for place in range(40):
            self.assertEqual(applied(row, [("take", place, own_line(place))]), row[:place] + row[place + 1:])
            self.assertEqual(applied(row, [("take", place, own_line(place)), ("put", 40, "z")]),
                             row[:place] + row[place + 1:] + ["z"])
            check_refused(self, NoFit, applied, row, [("put", place, "z")] if place else [("put", 0, "")])
        takes = [("take", place, own_line(place)) for place in range(40)]
        self.assertEqual(applied(row, takes), [])
        self.assertEqual(applied(row, takes + [("put", 40, "a")] * 40), ["a"] * 40)
        self.assertEqual(applied([], [("put", 0, "a")] * 40), ["a"] * 40)
        self.assertEqual(applied(own_lines(39), [("put", 39, "z")]), own_lines(39) + ["z"])

    def test_what_does_not_fit(self):
        row = ["a", "b"]
        for deeds in ([("take", 2, "a")], [("put", 3, "a")], [("take", 0, "b")], [("take", 1, "a")],
                      [("take", 0, "a"), ("take", 1, "a")], [("take", 0, "")], [("put", 0, "x"), ("take", 2, "x")],
                      [("put", 0, "a")] * 39, [("put", 39, "x")], [("take", 39, "x")]):
            self.assertIs(is_edit(deeds), True, deeds)
            check_refused(self, NoFit, applied, row, deeds)
        check_refused(self, NoFit, applied, [], [("take", 0, "")])
        check_refused(self, NoFit, applied, own_lines(40), [("put", 0, "a")])
        check_refused(self, NoFit, applied, own_lines(39), [("put", 0, "a"), ("put", 0, "a")])

    def test_refusals_in_order(self):
        for row in BAD_ROWS:
            for deeds in BAD_EDITS + ([], [("take", 0, "zz")]):
                check_refused(self, BadRow, applied, row, deeds)
        for deeds in BAD_EDITS:
            for row in ([], ["a"], ["b", "b"], own_lines(40)):
                check_refused(self, BadEdit, applied, row, deeds)
        # What would not fit either is refused as no edit first.
        check_refused(self, BadEdit, applied, [], [("take", 5, "a"), ("take", 5, "a")])

    def test_what_is_told_is_the_askers_own(self):
        check_own(self, applied, ["a", "b"], [("put", 1, "x"), ("take", 1, "b")])
        check_own(self, applied, ["a", "b"], [])
        check_own(self, applied, [], [])
        check_own(self, applied, own_lines(40), [("take", 39, own_line(39))])


class Turned(unittest.TestCase):
    def check_turned(self, row, deeds):
        back = turned(deeds)
        come = after(row, deeds)
        self.assertIs(is_edit(back), True)
        self.assertEqual(applied(come, back), row)
        self.assertEqual(len(back), len(deeds))
        self.assertEqual(sorted(lines_of("take", back)), sorted(lines_of("put", deeds)))
        self.assertEqual(sorted(lines_of("put", back)), sorted(lines_of("take", deeds)))
        self.assertEqual(turned(back), deeds)

    def test_plain_edits(self):
        self.assertEqual(turned([]), [])
        self.assertEqual(turned([("put", 0, "a")]), [("take", 0, "a")])
        self.assertEqual(turned([("take", 3, "a")]), [("put", 3, "a")])
        self.assertEqual(turned([("put", 1, "a"), ("put", 1, "b")]), [("take", 1, "a"), ("take", 2, "b")])
        self.assertEqual(turned([("take", 1, "a"), ("take", 2, "b")]), [("put", 1, "a"), ("put", 1, "b")])

    def test_small_edits_on_all_rows_that_they_fit(self):
        rows = all_rows(("a", "b"), 3)
        for deeds in small_edits():
            for row in rows:
                come = done(row, deeds)
                if come is not None and all(cell == line for cell, line in come[1]):
                    self.check_turned(row, deeds)

    def test_puts_and_takes_at_one_place(self):
        self.check_turned(["a", "b"], [("put", 0, "x"), ("put", 0, "y"), ("take", 0, "a"), ("put", 1, "z")])
        self.check_turned(["a", "b"], [("take", 0, "a"), ("put", 1, "a"), ("take", 1, "b"), ("put", 2, "b")])

    def test_by_chance(self):
        for chance in chances(14, 400):
            row = some_row(chance)
            self.check_turned(row, some_edit(chance, row, 40, chance.randint(1, 8)))

    def test_edits_of_eighty_deeds(self):
        takes = [("take", place, own_line(place)) for place in range(40)]
        puts = [("put", 40, own_line(40 + place)) for place in range(40)]
        self.check_turned(own_lines(40), takes + puts)
        self.check_turned(own_lines(40), [("put", 0, deed[2]) for deed in puts] + takes)
        both = [(word, place, "b" if word == "put" else own_line(place)) for place in range(40)
                for word in ("put", "take")]
        self.check_turned(own_lines(40), both)

    def test_what_is_no_edit(self):
        for deeds in BAD_EDITS:
            check_refused(self, BadEdit, turned, deeds)

    def test_what_is_told_is_the_askers_own(self):
        check_own(self, turned, [("put", 1, "x"), ("take", 1, "b")])
        check_own(self, turned, [])


class Behind(unittest.TestCase):
    def check_behind(self, first, second):
        rows = rows_of_both(first, second)
        if not rows:
            check_refused(self, NoFit, behind, first, second)
            return False
        one = behind(first, second)
        self.assertIs(is_edit(one), True, (first, second, one))
        for row in rows:
            self.assertEqual(applied(row, one), after(after(row, first), second), (row, first, second, one))
        shared = shared_lines(first, second)
        for word in ("put", "take"):
            both = lines_of(word, first) + lines_of(word, second)
            self.assertEqual(sorted(both), sorted(lines_of(word, one) + shared), (first, second, one))
        return True

    def test_plain_edits(self):
        put, take = [("put", 0, "a")], [("take", 0, "a")]
        self.assertEqual(behind(put, take), [])
        self.assertEqual(behind([], []), [])
        self.assertEqual(behind([], put), put)
        self.assertEqual(behind(take, []), take)
        self.assertEqual(behind(put, [("put", 0, "b")]), [("put", 0, "b"), ("put", 0, "a")])
        self.assertEqual(behind(put, [("put", 1, "b")]), [("put", 0, "a"), ("put", 0, "b")])
        self.assertEqual(behind(take, take), [("take", 0, "a"), ("take", 1, "a")])
        check_refused(self, NoFit, behind, put, [("take", 0, "b")])

    def test_a_line_taken_and_put_again_keeps_both_deeds(self):
        one = behind([("take", 0, "a")], [("put", 0, "a")])
        self.assertEqual(sorted(deed[0] for deed in one), ["put", "take"])
        self.assertEqual(applied(["a", "b"], one), ["a", "b"])
        check_refused(self, NoFit, applied, ["b"], one)

    def test_an_edit_and_its_turned_one_make_nothing_of_what_was_put(self):
        puts = [("put", 0, "a"), ("put", 3, "b"), ("put", 3, "b")]
        self.assertEqual(behind(puts, turned(puts)), [])

    def test_small_edits(self):
        edits = small_edits()
        answers = collections.Counter()
        for chance in chances(15, 2500):
            answers[self.check_behind(chance.choice(edits), chance.choice(edits))] += 1
        self.assertGreater(min(answers[True], answers[False]), 100)

    def test_edits_that_follow_by_chance(self):
        for first, second in some_pairs(16, 500):
            self.assertTrue(self.check_behind(first, second))

    def test_edits_that_may_follow_by_chance(self):
        answers = collections.Counter()
        for chance in chances(17, 700):
            thrift = chance.randint(2, 9)
            first = some_edit(chance, some_row(chance, 40, ("a",)), 40, thrift, ("a", "b"))
            second = some_edit(chance, some_row(chance, 40, ("a",)), 40, thrift, ("a", "b"))
            answers[self.check_behind(first, second)] += 1
        self.assertGreater(min(answers[True], answers[False]), 150, answers)

    def test_where_no_row_is_short_enough(self):
        for many in range(1, 40):
            takes = [("take", place, "a") for place in range(many)]
            self.assertTrue(self.check_behind(takes, [("take", 39 - many, "b")]))
            self.assertFalse(self.check_behind(takes, [("take", 40 - many, "b")]))
            self.assertTrue(self.check_behind(takes, [("put", 40 - many, "b")]))
            self.assertFalse(self.check_behind(takes, [("put", 41 - many, "b")] if many > 1 else [("take", 39, "b")]))
            self.assertTrue(self.check_behind([("put", 0, "a")] * many, [("put", 0, "b")] * (40 - many)))
            self.assertFalse(self.check_behind([("put", 0, "a")] * many, [("put", 0, "b")] * (41 - many)))
            self.assertTrue(self.check_behind([("put", 0, "a")], [("put", many, "b")] * (40 - many)))
            self.assertTrue(self.check_behind([("put", many, "a")], [("put", 0, "b")] * (39 - many)))
            self.assertFalse(self.check_behind([("put", many, "a")], [("put", 0, "b")] * (40 - many)))

    def test_a_line_put_and_another_taken_in_its_place(self):
        for many in (1, 2, 39):
            puts = [("put", 0, own_line(place)) for place in range(many)]
            for place in range(many):
                self.assertTrue(self.check_behind(puts, [("take", place, own_line(place))]))
                self.assertFalse(self.check_behind(puts, [("take", place, own_line(place + 1))]))
            self.assertTrue(self.check_behind(puts, [("take", many, "a")]))

    def test_edits_of_eighty_deeds(self):
        takes = [("take", place, own_line(place)) for place in range(40)]
        puts = [("put", 40, "b")] * 40
        self.assertTrue(self.check_behind(takes + puts, [("take", place, "b") for place in range(40)] + puts))
        self.assertTrue(self.check_behind(takes, [("put", 0, "c")] * 40))
        self.assertTrue(self.check_behind([("put", 0, "b")] * 40 + takes, [("take", place, "b") for place in range(40)]))
        self.assertFalse(self.check_behind(takes + puts, [("take", place, "c") for place in range(40)]))
        self.assertFalse(self.check_behind(takes + puts, [("put", 0, "c")]))

    def test_what_is_no_edit_goes_ahead(self):
        for deeds in BAD_EDITS:
            for other in ([], [("put", 0, "a")], [("take", 39, "a")], [("put", 0, "a")] * 40):
                check_refused(self, BadEdit, behind, deeds, other)
                check_refused(self, BadEdit, behind, other, deeds)
            check_refused(self, BadEdit, behind, deeds, deeds)

    def test_what_is_told_is_the_askers_own(self):
        check_own(self, behind, [("put", 1, "x"), ("take", 1, "b")], [("take", 1, "x"), ("put", 2, "z")])
        check_own(self, behind, [], [("put", 0, "a")])
        check_own(self, behind, [("put", 0, "a")], [])
        check_own(self, behind, [], [])


if __name__ == "__main__":
    unittest.main()
