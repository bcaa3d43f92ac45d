"""Pieces, promises [4.1], [4.2] and [4.3], and [1] of them."""

import itertools
import unittest

from pasthall.errors import BadRow
from pasthall.kept import kept
from pasthall.pieces import pieces, pieces_hold, sides
from tests.helpers import (after, all_rows, chances, check_own, check_refused, own_line, own_lines, some_edit,
                           some_row)

BAD_ROWS = (["A"], ["a", "b c"], ["abcdefghi"], [""] * 41, own_lines(41), ["a\n"], ["a", "1"])
EXCHANGED = {"same": "same", "one": "other", "other": "one", "both": "both", "clash": "clash"}


def stretch_by_words(old, mine, theirs):
    """[4.1] word by word, for one stretch: the pieces of it, none or one."""
    if old == mine == theirs:
        return [("same", old)] if old else []
    if old == theirs:
        return [("one", old, mine)]
    if old == mine:
        return [("other", old, theirs)]
    if mine == theirs:
        return [("both", old, mine)]
    return [("clash", old, mine, theirs)]


def pieces_by_words(base, one, other):
    """[4.1] and [4.2] word by word."""
    in_one, in_other = dict(kept(base, one)), dict(kept(base, other))
    held = [(place, in_one[place], in_other[place]) for place in range(len(base))
            if place in in_one and place in in_other]
    bounds = [(-1, -1, -1)] + held + [(len(base), len(one), len(other))]
    parts = []
    for ahead, later in zip(bounds, bounds[1:]):
        rows = [row[start + 1:end] for row, start, end in zip((base, one, other), ahead, later)]
        parts.extend(stretch_by_words(*rows))
        if later[0] < len(base):
            parts.append(("same", [base[later[0]]]))
    told = []
    for same, group in itertools.groupby(parts, key=lambda part: part[0] == "same"):
        group = list(group)
        told.extend([("same", sum([part[1] for part in group], []))] if same else group)
    return told


def side_by_words(told, which):
    """[4.3] word by word: the base (0), the one (1) or the other (2)."""
    places = {"same": (1, 1, 1), "one": (1, 2, 1), "other": (1, 1, 2), "both": (1, 2, 2), "clash": (1, 2, 3)}
    return [line for piece in told for line in piece[places[piece[0]][which]]]


def sides_by_words(told):
    return tuple(side_by_words(told, which) for which in range(3))


def holds_by_words(base, one, other, told):
    """[4.3] word by word."""
    if sides_by_words(told) != (base, one, other):
        return False
    for piece in told:
        if piece[0] == "same" and not piece[1]:
            return False
        if any(first == second for first, second in itertools.combinations(piece[1:], 2)):
            return False
    return all((first[0] == "same") + (second[0] == "same") == 1 for first, second in zip(told, told[1:]))


def made_of(chance, base):
    """A row made of a base by a few deeds."""
    return after(base, some_edit(chance, base, 40, chance.randint(2, 12)))


def some_threes(seed, many):
    """A base and two rows, made of it or not."""
    threes = []
    for chance in chances(seed, many):
        lines = chance.choice((("a", "b"), ("", "a", "b", "c"), [own_line(number) for number in range(60)]))
        base = some_row(chance, chance.choice((3, 8, 40)), lines)
        if chance.randrange(4):
            threes.append((base, made_of(chance, base), made_of(chance, base)))
        else:
            threes.append((base, some_row(chance, 40, lines), some_row(chance, 40, lines)))
    return threes


def some_pieces(rows):
    """All pieces with some rows, also those that can't hold."""
    told = [("same", row) for row in rows]
    told.extend((word, old, lines) for word in ("one", "other", "both") for old in rows for lines in rows)
    told.extend(("clash",) + three for three in itertools.product(rows, repeat=3))
    return told


class Pieces(unittest.TestCase):
    def check_told(self, base, one, other, told):
        self.assertEqual(pieces(base.split(), one.split(), other.split()), told)

    def test_each_word(self):
        self.check_told("a b c", "a b c", "a b c", [("same", ["a", "b", "c"])])
        self.check_told("a b c", "a x c", "a b c", [("same", ["a"]), ("one", ["b"], ["x"]), ("same", ["c"])])
        self.check_told("a b c", "a b c", "a x y c", [("same", ["a"]), ("other", ["b"], ["x", "y"]), ("same", ["c"])])
        self.check_told("a b c", "a x c", "a x c", [("same", ["a"]), ("both", ["b"], ["x"]), ("same", ["c"])])
        self.check_told("a b c", "a x c", "a y c", [("same", ["a"]), ("clash", ["b"], ["x"], ["y"]), ("same", ["c"])])

    def test_ahead_and_behind(self):
        self.check_told("a", "x a", "a y", [("one", [], ["x"]), ("same", ["a"]), ("other", [], ["y"])])
        self.check_told("a b c", "b c", "a b", [("one", ["a"], []), ("same", ["b"]), ("other", ["c"], [])])
        self.check_told("a", "x a", "y a", [("clash", [], ["x"], ["y"]), ("same", ["a"])])
        self.check_told("a", "a x", "a x", [("same", ["a"]), ("both", [], ["x"])])

    def test_rows_without_lines(self):
        self.check_told("", "", "", [])
        self.check_told("", "a", "", [("one", [], ["a"])])
        self.check_told("", "", "a b", [("other", [], ["a", "b"])])
        self.check_told("", "a", "a", [("both", [], ["a"])])
        self.check_told("", "a", "b", [("clash", [], ["a"], ["b"])])
        self.check_told("a", "", "", [("both", ["a"], [])])
        self.check_told("a", "", "a", [("one", ["a"], [])])
        self.check_told("a", "a", "", [("other", ["a"], [])])
        self.check_told("a", "", "b", [("clash", ["a"], [], ["b"])])

    def test_empty_lines(self):
        self.assertEqual(pieces([""], ["", ""], [""]), [("same", [""]), ("one", [], [""])])
        self.assertEqual(pieces(["", "a"], ["a"], ["", "a", ""]),
                         [("one", [""], []), ("same", ["a"]), ("other", [], [""])])
        self.assertEqual(pieces([], [""], ["", ""]), [("clash", [], [""], ["", ""])])

    def test_lines_that_stand_twice(self):
        # Of the like lines the kept pairs hold the first ones.
        self.check_told("a a", "a", "a a", [("same", ["a"]), ("one", ["a"], [])])
        self.check_told("a b a", "b a", "a b", [("one", ["a"], []), ("same", ["b"]), ("other", ["a"], [])])
        self.check_told("a b", "a b", "b a", [("other", [], ["b"]), ("same", ["a"]), ("other", ["b"], [])])
        self.check_told("a", "a a", "a a", [("same", ["a"]), ("both", [], ["a"])])

    def test_what_is_kept_in_one_alone_is_not_held(self):
        self.check_told("a b", "b", "a", [("clash", ["a", "b"], ["b"], ["a"])])
        self.check_told("a b c", "a c", "a b", [("same", ["a"]), ("clash", ["b", "c"], ["c"], ["b"])])

    def test_all_small_rows(self):
        for base, one, other in itertools.product(all_rows(("a", "b"), 3), repeat=3):
            self.assertEqual(pieces(base, one, other), pieces_by_words(base, one, other), (base, one, other))
        for base, one, other in itertools.product(all_rows(("", "a", "b"), 2), repeat=3):
            self.assertEqual(pieces(base, one, other), pieces_by_words(base, one, other), (base, one, other))

    def test_by_chance(self):
        words = set()
        for base, one, other in some_threes(41, 400):
            told = pieces(base, one, other)
            words.update(piece[0] for piece in told)
            self.assertEqual(told, pieces_by_words(base, one, other))
            self.assertEqual(sides(told), (base, one, other))
            self.assertIs(pieces_hold(base, one, other, told), True)
        self.assertEqual(words, set(EXCHANGED))

    def test_the_one_and_the_other_exchanged(self):
        for base, one, other in some_threes(42, 100):
            turned = [(EXCHANGED[piece[0]],) + (piece[1:2] + piece[:1:-1] if piece[0] == "clash" else piece[1:])
                      for piece in pieces(base, one, other)]
            self.assertEqual(pieces(base, other, one), turned)

    def test_forty_lines(self):
        base = own_lines(40)
        self.assertEqual(pieces(base, base, base), [("same", base)])
        self.assertEqual(pieces(base, [], base), [("one", base, [])])
        self.assertEqual(pieces(base, base[::-1], []), [("clash", base, base[::-1], [])])
        one = [line if place % 2 else "a" for place, line in enumerate(base)]
        told = []
        for place in range(0, 40, 2):
            told.extend([("one", [base[place]], ["a"]), ("same", [base[place + 1]])])
        self.assertEqual(pieces(base, one, base), told)
        self.assertEqual(pieces(["a"] * 40, ["a"] * 40, ["a"] * 39), [("same", ["a"] * 39), ("other", ["a"], [])])

    def test_what_is_no_row(self):
        for bad in BAD_ROWS:
            for rows in itertools.product((["a"], bad), repeat=3):
                if bad in rows:
                    check_refused(self, BadRow, pieces, *[list(row) for row in rows])

    def test_what_is_told_is_the_askers_own(self):
        for base, one, other in some_threes(43, 40):
            check_own(self, pieces, base, one, other)
        row = ["a", "b"]
        check_own(self, pieces, row, row, row)
        check_own(self, pieces, ["a"], row, row)
        check_own(self, pieces, row, [], [])
        check_own(self, pieces, row, row, [])


class Sides(unittest.TestCase):
    def test_each_word(self):
        self.assertEqual(sides([("same", ["a", "b"])]), (["a", "b"], ["a", "b"], ["a", "b"]))
        self.assertEqual(sides([("one", ["a"], ["b"])]), (["a"], ["b"], ["a"]))
        self.assertEqual(sides([("other", ["a"], ["b"])]), (["a"], ["a"], ["b"]))
        self.assertEqual(sides([("both", ["a"], ["b"])]), (["a"], ["b"], ["b"]))
        self.assertEqual(sides([("clash", ["a"], ["b"], ["c"])]), (["a"], ["b"], ["c"]))

    def test_in_order(self):
        told = [("one", ["a"], ["b", "c"]), ("same", ["d"]), ("clash", [], ["e"], ["f"]), ("same", [""]),
                ("other", ["g"], []), ("same", ["h"]), ("both", ["i"], ["j"])]
        self.assertEqual(sides(told), (["a", "d", "", "g", "h", "i"], ["b", "c", "d", "e", "", "g", "h", "j"],
                                       ["a", "d", "f", "", "h", "j"]))

    def test_no_pieces(self):
        told = sides([])
        self.assertEqual(told, ([], [], []))
        self.assertIs(type(told), tuple)

    def test_pieces_that_do_not_hold(self):
        pool = some_pieces(([], ["a"], ["b", ""]))
        for piece in pool:
            self.assertEqual(sides([piece]), sides_by_words([piece]))
        for told in itertools.product(pool, repeat=2):
            self.assertEqual(sides(list(told)), sides_by_words(told))

    def test_many_pieces(self):
        pool = some_pieces(([], ["a"], ["b", ""]))
        for chance in chances(44, 20):
            for many in (89, 90, 95):
                told = [chance.choice(pool) for turn in range(many)]
                self.assertEqual(sides(told), sides_by_words(told))
        self.assertEqual(sides([("same", ["a"])] * 90), (["a"] * 90,) * 3)

    def test_what_is_told_is_the_askers_own(self):
        for piece in some_pieces((["a"], ["b", "c"], [])):
            check_own(self, sides, [(piece[0],) + tuple(list(row) for row in piece[1:])])
        check_own(self, sides, [])
        row = ["a"]
        check_own(self, sides, [("clash", row, row, row), ("same", row)])


class PiecesHold(unittest.TestCase):
    def check_broken(self, told, rows=None):
        rows = rows or sides_by_words(told)
        self.assertIs(holds_by_words(*rows, told), False)
        self.assertIs(pieces_hold(*rows, told), False, told)

    def check_holding(self, told):
        rows = sides_by_words(told)
        self.assertIs(holds_by_words(*rows, told), True)
        self.assertIs(pieces_hold(*rows, told), True, told)

    def test_pieces_that_are_not_those_told(self):
        for told in ([("other", ["a"], []), ("same", ["b"]), ("other", [], ["a"])], [("other", ["a", "b"], ["b", "a"])],
                     [("one", ["a", "b"], ["a", "c"])], [("clash", ["a"], ["a", "b"], ["a", "c"])],
                     [("both", ["a"], ["a", "b"]), ("same", ["c"])]):
            self.check_holding(told)
            self.assertNotEqual(pieces(*sides_by_words(told)), told)

    def test_no_pieces(self):
        self.assertIs(pieces_hold([], [], [], []), True)
        for rows in ((["a"], [], []), ([], ["a"], []), ([], [], ["a"]), (["a"], ["a"], ["a"])):
            self.check_broken([], rows)

    def test_a_same_piece_without_lines(self):
        self.check_broken([("same", [])])
        self.check_broken([("one", ["a"], ["b"]), ("same", [])])
        self.check_broken([("same", []), ("one", ["a"], ["b"])])
        self.check_broken([("one", ["a"], ["b"]), ("same", []), ("other", ["a"], ["b"])])
        self.check_holding([("same", [""])])

    def test_two_same_ones_or_two_others_one_behind_the_other(self):
        self.check_broken([("same", ["a"]), ("same", ["b"])])
        self.check_broken([("one", [], ["a"]), ("same", ["a"]), ("same", ["b"])])
        for first in ("one", "other", "both"):
            for second in ("one", "other", "both"):
                self.check_broken([(first, ["a"], ["b"]), (second, ["c"], ["d"])])
                self.check_broken([("same", ["a"]), (first, ["a"], ["b"]), (second, ["c"], ["d"]), ("same", ["a"])])
                self.check_holding([(first, ["a"], ["b"]), ("same", ["x"]), (second, ["c"], ["d"])])
            self.check_broken([(first, ["a"], ["b"]), ("clash", ["a"], ["b"], ["c"])])
            self.check_broken([("clash", ["a"], ["b"], ["c"]), (first, ["a"], ["b"])])
        self.check_broken([("clash", ["a"], ["b"], ["c"])] * 2)

    def test_rows_alike_within_a_piece(self):
        for row in ([], ["a"], ["", "a"]):
            for word in ("one", "other", "both"):
                self.check_broken([(word, row, list(row))])
                self.check_broken([("same", ["b"]), (word, row, list(row))])
            self.check_broken([("clash", row, list(row), ["b"])])
            self.check_broken([("clash", row, ["b"], list(row))])
            self.check_broken([("clash", ["b"], row, list(row))])
            self.check_broken([("clash", row, list(row), list(row))])
            self.check_holding([("clash", ["b"], row, ["c"])])

    def test_like_rows_in_two_pieces_do_no_harm(self):
        self.check_holding([("one", ["a"], ["b"]), ("same", ["a"]), ("one", ["a"], ["b"])])
        self.check_holding([("one", ["a"], []), ("same", ["a"]), ("other", [], ["a"])])

    def test_other_sides(self):
        for base, one, other in some_threes(45, 150):
            told = pieces(base, one, other)
            for which in range(3):
                for turn in range(3):
                    rows = [list(base), list(one), list(other)]
                    if turn == 0 and len(rows[which]) < 40:
                        rows[which].append("zz")
                    elif turn == 1 and rows[which]:
                        rows[which].pop()
                    elif turn == 2 and rows[which]:
                        rows[which][len(rows[which]) // 2] = "zz"
                    if rows != [base, one, other]:
                        self.check_broken(told, rows)

    def test_all_of_one_and_two_pieces(self):
        pool = some_pieces(([], ["a"], ["b"]))
        for many in (1, 2):
            for told in itertools.product(pool, repeat=many):
                rows = sides_by_words(told)
                self.assertIs(pieces_hold(*rows, list(told)), holds_by_words(*rows, told), told)

    def test_more_pieces_by_chance(self):
        rows = ([], ["a"], ["b"], ["a", "b"])
        pool = some_pieces(rows)
        sames, others = [[piece for piece in pool if (piece[0] == "same") == truth] for truth in (True, False)]
        for chance in chances(46, 3000):
            first = chance.randrange(2)
            told = [chance.choice((sames, others)[(turn + first) % 2]) for turn in range(chance.randint(3, 7))]
            three = sides_by_words(told)
            self.assertIs(pieces_hold(*three, told), holds_by_words(*three, told), told)

    def test_as_many_pieces_as_can_hold(self):
        # Lines put by the one, put by the other and taken by both have each a row of their own.
        kinds = [("one", [], ["a"]), ("other", [], ["b"]), ("both", ["c"], [])]
        told = [kinds[turn // 2 % 3] if turn % 2 == 0 else ("same", ["x"]) for turn in range(59)]
        self.assertEqual([len(row) for row in sides_by_words(told)], [39, 39, 39])
        self.check_holding(told)

    def test_ninety_pieces(self):
        for told in ([("same", [])] * 90, [("both", ["a"], [])] * 40 + [("same", [])] * 50,
                     [("both", [], []), ("same", [])] * 45, [("clash", [], [], [])] * 91):
            self.check_broken(told)
        self.check_broken([("same", ["a"]), ("one", [], ["b"])] * 45, (["a"] * 40, ["a"] * 40, ["a"] * 40))

    def test_what_is_no_row(self):
        for bad in BAD_ROWS:
            for told in ([], [("same", ["a"])], [("same", [])]):
                for rows in itertools.product((["a"], bad), repeat=3):
                    if bad in rows:
                        check_refused(self, BadRow, pieces_hold, *[list(row) for row in rows], told)
        # Also where the pieces have just these rows as their sides.
        check_refused(self, BadRow, pieces_hold, ["a"] * 41, ["a"] * 41, ["a"] * 41, [("same", ["a"] * 41)])

    def test_nothing_is_changed(self):
        for base, one, other in some_threes(47, 20):
            check_own(self, pieces_hold, base, one, other, pieces(base, one, other))


if __name__ == "__main__":
    unittest.main()
