"""Pieces merged and settled, promise [4.4], and [1] of them."""

import itertools
import unittest

from pasthall.errors import BadRow, Clash, NoFit
from pasthall.merging import merged, settled
from pasthall.pieces import pieces
from tests.helpers import after, chances, check_own, check_refused, own_lines, some_edit, some_row

PICKS = ("old", "one", "other", "one other", "other one")
BAD_PICKS = ("", "mine", "theirs", "both", "One", "OLD", " one", "one ", "one  other", "one\tother", "other\none",
             "other other", "one one", "old one", "oneother", "one other one", "clash", "same", "a")
CLASH = ("clash", ["o"], ["m", "n"], ["t"])


def picked(piece, pick):
    """[4.4] word by word: the lines that stand in the place of a clash."""
    lines = {"old": piece[1], "one": piece[2], "other": piece[3]}
    return [line for word in pick.split(" ") for line in lines[word]]


def row_by_words(told, picks):
    row, left = [], list(picks)
    for piece in told:
        row.extend(picked(piece, left.pop(0)) if piece[0] == "clash" else piece[1 if piece[0] == "same" else 2])
    return row


def some_told(seed, many, thrift=8):
    """Pieces of rows made of a base."""
    found = []
    for chance in chances(seed, many):
        base = some_row(chance, 30, own_lines(50)) if chance.randrange(2) else own_lines(chance.choice((5, 36, 38)))
        one, other = [after(base, some_edit(chance, base, 40, chance.randint(2, thrift))) for turn in range(2)]
        found.append((chance, pieces(base, one, other)))
    return found


class Merged(unittest.TestCase):
    def check_clash(self, told):
        """Refused with Clash, without paths."""
        with self.assertRaises(Clash) as caught:
            merged(told)
        self.assertEqual(caught.exception.paths, [])
        check_refused(self, Clash, merged, told)

    def test_each_word(self):
        self.assertEqual(merged([]), [])
        self.assertEqual(merged([("same", ["a", ""])]), ["a", ""])
        for word in ("one", "other", "both"):
            self.assertEqual(merged([(word, ["a"], ["b", "c"])]), ["b", "c"])
            self.assertEqual(merged([(word, ["a"], [])]), [])
            self.assertEqual(merged([(word, [], ["a"])]), ["a"])

    def test_in_order(self):
        told = [("one", ["a"], ["b"]), ("same", ["c", "d"]), ("other", [], ["e", "f"]), ("same", ["g"]),
                ("both", ["h"], ["i"])]
        self.assertEqual(merged(told), ["b", "c", "d", "e", "f", "g", "i"])

    def test_pieces_that_do_not_hold(self):
        self.assertEqual(merged([("same", []), ("same", ["a"]), ("one", ["b"], ["b"]), ("other", [], ["c"])]),
                         ["a", "b", "c"])

    def test_a_clash_at_each_place(self):
        for told in ([CLASH], [CLASH, ("same", ["a"])], [("same", ["a"]), CLASH], [CLASH, CLASH],
                     [("one", [], ["a"]), ("same", ["b"]), CLASH, ("same", ["c"]), ("both", ["d"], [])],
                     [("clash", [], [], [])], [("clash", ["a"], ["a"], ["a"])]):
            self.check_clash(told)

    def test_forty_lines(self):
        for told in ([("same", own_lines(40))], [("one", [], own_lines(40))], [("same", ["a"])] * 40,
                     [("both", ["b"] * 41, own_lines(39)), ("same", ["a"])],
                     [("same", ["a"]), ("one", own_lines(40), [""] * 19), ("same", [""]), ("other", [], [""] * 19)]):
            self.assertEqual(merged(told), row_by_words(told, []))
            self.assertEqual(len(merged(told)), 40)

    def test_more_than_forty_lines(self):
        for told in ([("same", own_lines(41))], [("one", [], own_lines(41))], [("same", ["a"])] * 41,
                     [("both", [], own_lines(40)), ("same", [""])], [("other", ["a"], ["b"])] * 90,
                     [("same", own_lines(20)), ("one", [], own_lines(11)), ("same", []), ("other", [], [""] * 10)]):
            check_refused(self, BadRow, merged, told)

    def test_a_clash_ahead_of_more_than_forty_lines(self):
        self.check_clash([("same", own_lines(41)), CLASH])
        self.check_clash([CLASH, ("same", own_lines(60))])
        self.check_clash([("clash", own_lines(41), own_lines(42), own_lines(43))])

    def test_where_one_side_alone_did_something(self):
        for chance in chances(51, 100):
            base = some_row(chance)
            other = after(base, some_edit(chance, base, 40, chance.randint(1, 6)))
            self.assertEqual(merged(pieces(base, base, other)), other)
            self.assertEqual(merged(pieces(base, other, base)), other)
            self.assertEqual(merged(pieces(base, other, other)), other)

    def test_by_chance(self):
        outcomes = set()
        for chance, told in some_told(52, 300, 30):
            clash = any(piece[0] == "clash" for piece in told)
            row = None if clash else row_by_words(told, [])
            outcomes.add("clash" if clash else len(row) > 40)
            if clash:
                self.check_clash(told)
            elif len(row) > 40:
                check_refused(self, BadRow, merged, told)
            else:
                self.assertEqual(merged(told), row)
        self.assertEqual(outcomes, {"clash", True, False})

    def test_what_is_told_is_the_askers_own(self):
        for told in ([("same", ["a", "b"])], [("one", ["a"], ["b"]), ("same", ["c"])], [], [("both", [], ["a"])]):
            check_own(self, merged, told)


class Settled(unittest.TestCase):
    def test_each_pick(self):
        told = [("same", ["a"]), CLASH, ("same", ["b"])]
        for pick, lines in (("old", ["o"]), ("one", ["m", "n"]), ("other", ["t"]), ("one other", ["m", "n", "t"]),
                            ("other one", ["t", "m", "n"])):
            self.assertEqual(settled(told, [pick]), ["a"] + lines + ["b"])
            self.assertEqual(settled([CLASH], [pick]), lines)

    def test_rows_without_lines(self):
        for rows in itertools.product(([], ["a"], ["b"]), repeat=3):
            for pick in PICKS:
                piece = ("clash",) + rows
                self.assertEqual(settled([piece], [pick]), picked(piece, pick))

    def test_picks_in_order(self):
        second = ("clash", [], ["x"], ["y"])
        told = [CLASH, ("same", ["a"]), second, ("same", ["b"]), ("one", ["c"], ["d"]), ("same", []), CLASH]
        for picks in itertools.product(PICKS, repeat=3):
            self.assertEqual(settled(told, list(picks)), row_by_words(told, picks))

    def test_without_a_clash_it_is_merged(self):
        for told in ([], [("same", ["a"])], [("one", ["a"], []), ("same", ["b"]), ("both", [], ["c", "d"])],
                     [("other", ["a"], ["b"])]):
            self.assertEqual(settled(told, []), merged(told))

    def test_by_chance(self):
        for chance, told in some_told(53, 300, 4):
            picks = [chance.choice(PICKS) for piece in told if piece[0] == "clash"]
            row = row_by_words(told, picks)
            if len(row) > 40:
                check_refused(self, BadRow, settled, told, picks)
            else:
                self.assertEqual(settled(told, picks), row)

    def test_all_old_ones_lead_back_where_clashes_are_all(self):
        told = [CLASH, ("same", ["a"])] * 4
        self.assertEqual(settled(told, ["old"] * 4), ["o", "a"] * 4)
        self.assertEqual(settled(told, ["one"] * 4), ["m", "n", "a"] * 4)

    def test_picks_too_many_or_too_few(self):
        for clashes in range(4):
            told = [CLASH, ("same", ["a"])] * clashes
            for many in range(6):
                for pick in PICKS:
                    if many != clashes:
                        check_refused(self, NoFit, settled, told, [pick] * many)
        check_refused(self, NoFit, settled, [("same", ["a"])], ["old"])
        check_refused(self, NoFit, settled, [("one", ["a"], ["b"])], ["one"])

    def test_another_text(self):
        for bad in BAD_PICKS:
            check_refused(self, NoFit, settled, [CLASH], [bad])
            for picks in (["one", bad], [bad, "one"], [bad, bad]):
                check_refused(self, NoFit, settled, [CLASH, ("same", ["a"]), CLASH], picks)
            check_refused(self, NoFit, settled, [], [bad])
            check_refused(self, NoFit, settled, [CLASH], ["one", bad])

    def test_forty_lines_and_more(self):
        piece = ("clash", own_lines(41), own_lines(20), own_lines(21)[1:])
        for pick in ("one other", "other one"):
            self.assertEqual(settled([piece], [pick]), picked(piece, pick))
            check_refused(self, BadRow, settled, [piece, ("same", ["a"])], [pick])
            check_refused(self, BadRow, settled, [("same", ["a"]), piece], [pick])
        check_refused(self, BadRow, settled, [piece], ["old"])
        for pick in ("one", "other"):
            self.assertEqual(settled([piece, ("same", own_lines(20))], [pick]), picked(piece, pick) + own_lines(20))
            check_refused(self, BadRow, settled, [piece, ("same", own_lines(21))], [pick])
        check_refused(self, BadRow, settled, [("same", own_lines(41))], [])

    def test_no_fit_ahead_of_more_than_forty_lines(self):
        piece = ("clash", own_lines(41), own_lines(42), own_lines(43))
        for picks in ([], ["one", "one"], ["mine"], [""]):
            check_refused(self, NoFit, settled, [piece, ("same", own_lines(41))], picks)
        check_refused(self, NoFit, settled, [("same", own_lines(41))], ["old"])

    def test_ninety_pieces(self):
        told = [("clash", [], ["a"], ["b", "c"]), ("same", [])] * 45
        self.assertEqual(settled(told, ["old"] * 20 + ["one"] * 10 + ["other"] * 15), ["a"] * 10 + ["b", "c"] * 15)
        check_refused(self, BadRow, settled, told, ["one"] * 45)
        check_refused(self, NoFit, settled, told, ["one"] * 90)

    def test_what_is_told_is_the_askers_own(self):
        for pick in PICKS:
            told = [("same", ["a"]), ("clash", ["o"], ["m"], ["t"]), ("one", ["b"], ["c"])]
            check_own(self, settled, told, [pick])
            check_own(self, settled, [("clash", ["o"], ["m"], ["t"])], [pick])
        check_own(self, settled, [("same", ["a"])], [])


if __name__ == "__main__":
    unittest.main()
