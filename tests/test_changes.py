"""Changes, promises [2.2] to [2.7], and [1] of them."""

import collections
import itertools
import unittest

from pasthall.changes import change, changed, followed, is_change, leads, moves, turned_change
from pasthall.edits import edit, turned
from pasthall.errors import BadChange, BadTree, NoFit
from pasthall.trees import is_tree
from tests.helpers import (BAD_EDITS, BAD_TREES, PATHS, after, all_rows, chances, check_own, check_refused, done,
                           file_after, full_tree, own_line, own_lines, rows_of_both, shared_lines, some_change,
                           some_row, some_tree, tree_after)

PUT, TAKE = [("put", 0, "a")], [("take", 0, "a")]
NAMES = ["p" + letter for letter in "abcdefghijklmnopqr"]

BAD_CHANGES = tuple(
    [{path: deed} for path in ("", "A", "a b", "a1", "abcdefghi", "a\n") for deed in (("new", []), ("edit", PUT))]
    + [{"a": (word, [])} for word in ("", "put", "take", "New", "edit ", "old", "new\n", "edit")]
    + [{"a": (word, row)} for word in ("new", "gone") for row in (["A"], [""] * 41, ["abcdefghi"], ["a", "\t"])]
    + [{"a": ("edit", deeds)} for deeds in BAD_EDITS]
    + [{path: deed for path in NAMES[:9]} for deed in (("new", []), ("gone", ["a"]), ("edit", PUT))])


def named(news, gones, edits):
    """A change with so many files put, taken and edited."""
    deeds = [("new", ["a"])] * news + [("gone", ["b"])] * gones + [("edit", PUT)] * edits
    return dict(zip(NAMES, deeds))


def some_trees(seed, many):
    return [(chance, some_tree(chance, 8, chance.choice((2, 6, 40)))) for chance in chances(seed, many)]


class IsChange(unittest.TestCase):
    def test_changes(self):
        for good in ({}, {"a": ("new", [])}, {"a": ("gone", [""])}, {"a": ("edit", PUT)},
                     {"abcdefgh": ("new", own_lines(40)), "z": ("gone", own_lines(40))},
                     {"a": ("edit", [("take", 0, "a"), ("put", 40, "b")])}):
            self.assertIs(is_change(good), True, good)

    def test_what_is_none(self):
        for bad in BAD_CHANGES:
            self.assertIs(is_change(bad), False, bad)

    def test_a_bad_deed_among_good_ones(self):
        for bad in BAD_CHANGES:
            for more in ({"x": ("new", [])}, {"x": ("gone", ["a"]), "y": ("edit", TAKE)}):
                self.assertIs(is_change({**more, **bad}), False)
                self.assertIs(is_change({**bad, **more}), False)

    def test_an_edit_without_deeds(self):
        self.assertIs(is_change({"a": ("edit", [])}), False)
        self.assertIs(is_change({"a": ("new", []), "b": ("gone", [])}), True)

    def test_how_many_files(self):
        for news, gones, edits in itertools.product(range(10), range(10), range(10)):
            if news + gones + edits <= len(NAMES):
                truth = gones + edits <= 8 and news + edits <= 8
                self.assertIs(is_change(named(news, gones, edits)), truth, (news, gones, edits))

    def test_nothing_is_changed(self):
        for handed in ({}, {"a": ("new", ["b"]), "b": ("edit", list(PUT))}, {"a": ("edit", [])}, {"A": ("new", [])}):
            check_own(self, is_change, handed)


class Change(unittest.TestCase):
    def change_by_paths(self, old, new):
        """[2.4] word by word."""
        deeds = {}
        for path in set(old) | set(new):
            if path not in old:
                deeds[path] = ("new", new[path])
            elif path not in new:
                deeds[path] = ("gone", old[path])
            elif old[path] != new[path]:
                deeds[path] = ("edit", edit(old[path], new[path]))
        return deeds

    def check_change(self, old, new):
        told = change(old, new)
        self.assertEqual(told, self.change_by_paths(old, new))
        self.assertIs(is_change(told), True)
        for deed in told.values():
            self.assertIs(type(deed), tuple)
            self.assertIs(type(deed[1]), list)
        self.assertEqual(changed(old, told), new)
        self.assertIs(leads(old, new, told), True)
        self.assertEqual(changed(new, turned_change(told)), old)

    def test_plain_trees(self):
        old = {"a": ["x"], "b": ["y"], "c": ["z"]}
        new = {"b": ["y", "y"], "c": ["z"], "d": []}
        self.assertEqual(change(old, new), {"a": ("gone", ["x"]), "b": ("edit", [("put", 1, "y")]), "d": ("new", [])})
        self.assertEqual(change({}, {}), {})
        self.assertEqual(change({"a": []}, {"a": [""]}), {"a": ("edit", [("put", 0, "")])})
        self.assertEqual(change({"a": []}, {}), {"a": ("gone", [])})

    def test_a_tree_to_itself(self):
        for tree in ({}, {"a": []}, full_tree()):
            self.assertEqual(change(tree, dict(tree)), {})
            self.assertEqual(change(tree, tree), {})

    def test_by_chance(self):
        for chance, old in some_trees(31, 200):
            self.check_change(old, some_tree(chance, 8, chance.choice((2, 6, 40))))

    def test_small_trees(self):
        rows = [None] + all_rows(("a", "b"), 1)
        trees = [{path: row for path, row in zip("ab", pair) if row is not None}
                 for pair in itertools.product(rows, repeat=2)]
        for old in trees:
            for new in trees:
                self.check_change(old, new)

    def test_eight_files_of_forty_lines(self):
        full = full_tree()
        self.check_change(full, {path: row[::-1] for path, row in full.items()})
        self.check_change(full, {})
        self.check_change({}, full)
        self.check_change(full, {path: row for path, row in zip(NAMES, full.values())})
        self.check_change(full, {path: [""] * 40 for path in full})

    def test_what_is_no_tree(self):
        for bad in BAD_TREES:
            check_refused(self, BadTree, change, bad, {})
            check_refused(self, BadTree, change, {}, bad)
            check_refused(self, BadTree, change, bad, bad)

    def test_what_is_told_is_the_askers_own(self):
        row = ["q"]
        check_own(self, change, {"a": ["x"], "b": ["y"], "c": []}, {"b": ["y", "z"], "c": [], "d": ["x"]})
        check_own(self, change, {}, {"a": row, "b": row})
        check_own(self, change, {"a": row, "b": row}, {})
        check_own(self, change, {}, {})


class Changed(unittest.TestCase):
    def test_plain_changes(self):
        tree = {"a": ["x"], "b": ["y"], "c": ["z"]}
        deeds = {"a": ("gone", ["x"]), "b": ("edit", [("put", 1, "y")]), "d": ("new", [])}
        self.assertEqual(changed(tree, deeds), {"b": ["y", "y"], "c": ["z"], "d": []})
        self.assertEqual(changed(tree, {}), tree)
        self.assertEqual(changed({}, {}), {})

    def test_by_chance(self):
        for chance, tree in some_trees(32, 300):
            deeds = some_change(chance, tree)
            self.assertIs(is_change(deeds), True)
            come = changed(tree, deeds)
            self.assertEqual(come, tree_after(tree, deeds))
            self.assertIs(is_tree(come), True)

    def test_changes_of_other_trees_by_chance(self):
        answers = collections.Counter()
        for chance, tree in some_trees(33, 600):
            tree = {path: row[:1] for path, row in tree.items()}
            other = {path: row[:1] for path, row in some_tree(chance, 8, 1).items()}
            deeds = some_change(chance, other)
            deeds = {path: deeds[path] for path in sorted(deeds)[:chance.randint(1, 3)]}
            come = tree_after(tree, deeds)
            answers[come is None] += 1
            if come is None:
                check_refused(self, NoFit, changed, tree, deeds)
            else:
                self.assertEqual(changed(tree, deeds), come)
        self.assertGreater(min(answers.values()), 50, answers)

    def test_what_does_not_fit(self):
        tree = {"a": ["a"], "b": []}
        for deeds in ({"a": ("new", ["a"])}, {"b": ("new", [])}, {"a": ("gone", [])}, {"b": ("gone", ["a"])},
                      {"a": ("gone", ["a", "a"])}, {"c": ("gone", [])}, {"c": ("edit", PUT)}, {"b": ("edit", TAKE)},
                      {"a": ("edit", [("take", 0, "b")])}, {"a": ("edit", [("put", 2, "a")])},
                      {"a": ("edit", [("put", 0, "a")] * 40)}, {"x": ("new", []), "c": ("gone", [])},
                      {"a": ("gone", ["a"]), "b": ("new", [])}):
            self.assertIs(is_change(deeds), True, deeds)
            check_refused(self, NoFit, changed, tree, deeds)
            self.assertIs(leads(tree, tree, deeds), False)

    def test_how_many_files(self):
        for many in range(9):
            tree = {path: ["b"] for path in PATHS[:many]}
            for news in range(9):
                deeds = named(news, 0, 0)
                if many + news <= 8:
                    self.assertEqual(len(changed(tree, deeds)), many + news)
                else:
                    check_refused(self, NoFit, changed, tree, deeds)
        tree = {path: ["b"] for path in PATHS[:8]}
        deeds = {PATHS[0]: ("gone", ["b"]), "q": ("new", ["a"])}
        self.assertEqual(len(changed(tree, deeds)), 8)
        check_refused(self, NoFit, changed, tree, {**deeds, "r": ("new", [])})
        all_other = {**{path: ("gone", ["b"]) for path in tree}, **named(8, 0, 0)}
        self.assertEqual(changed(tree, all_other), {path: ["a"] for path in NAMES[:8]})

    def test_eight_files_of_forty_lines(self):
        full = full_tree()
        deeds = {path: ("edit", [("take", 0, row[0]), ("put", 40, "a")]) for path, row in full.items()}
        self.assertEqual(changed(full, deeds), {path: row[1:] + ["a"] for path, row in full.items()})
        check_refused(self, NoFit, changed, full, {"x": ("edit", PUT)})

    def test_refusals_in_order(self):
        for tree in BAD_TREES:
            for deeds in BAD_CHANGES + ({}, {"q": ("gone", [])}):
                check_refused(self, BadTree, changed, tree, deeds)
        for deeds in BAD_CHANGES:
            check_refused(self, BadChange, changed, {}, deeds)
            check_refused(self, BadChange, changed, {"a": ["a"]}, deeds)
            # With a deed that doesn't fit either.
            check_refused(self, BadChange, changed, {}, {"x": ("gone", []), **deeds})

    def test_what_is_told_is_the_askers_own(self):
        row = ["q"]
        check_own(self, changed, {"a": ["x"], "b": ["y"], "c": []},
                  {"a": ("gone", ["x"]), "b": ("edit", [("put", 0, "a")]), "d": ("new", ["z"])})
        check_own(self, changed, {"a": row, "b": row}, {})
        check_own(self, changed, {}, {"a": ("new", row), "b": ("new", row)})
        check_own(self, changed, {}, {})


class TurnedChange(unittest.TestCase):
    def test_plain_changes(self):
        deeds = {"a": ("gone", ["x"]), "b": ("edit", [("put", 1, "y")]), "d": ("new", [])}
        self.assertEqual(turned_change(deeds),
                         {"a": ("new", ["x"]), "b": ("edit", [("take", 1, "y")]), "d": ("gone", [])})
        self.assertEqual(turned_change({}), {})

    def check_turned(self, tree, deeds):
        back = turned_change(deeds)
        self.assertIs(is_change(back), True)
        self.assertEqual(changed(changed(tree, deeds), back), tree)
        self.assertEqual(turned_change(back), deeds)
        self.assertEqual(set(back), set(deeds))
        for path, (word, held) in deeds.items():
            other = {"new": ("gone", held), "gone": ("new", held)}
            self.assertEqual(back[path], other[word] if word != "edit" else ("edit", turned(held)))

    def test_by_chance(self):
        for chance, tree in some_trees(34, 300):
            self.check_turned(tree, some_change(chance, tree))

    def test_eight_files_of_forty_lines(self):
        full = full_tree()
        self.check_turned(full, {path: ("gone", row) for path, row in full.items()})
        self.check_turned({}, {path: ("new", row) for path, row in full.items()})
        self.check_turned(full, {path: ("edit", edit(row, own_lines(40)[::-1])) for path, row in full.items()
                                 if path != "a"})

    def test_sixteen_paths(self):
        tree = {path: ["b"] for path in NAMES[8:16]}
        self.check_turned(tree, named(8, 8, 0))

    def test_what_is_no_change(self):
        for deeds in BAD_CHANGES:
            check_refused(self, BadChange, turned_change, deeds)

    def test_what_is_told_is_the_askers_own(self):
        row = ["q"]
        check_own(self, turned_change, {"a": ("gone", ["x"]), "b": ("edit", list(PUT)), "d": ("new", [])})
        check_own(self, turned_change, {"a": ("gone", row), "b": ("new", row)})
        check_own(self, turned_change, {})


def row_ahead(deeds, row):
    """The row that an edit leads to another one, or None."""
    length = len(row) + sum(1 if word == "take" else -1 for word, place, line in deeds)
    come = done(list(range(max(length, 0))), deeds) if length <= 40 else None
    if come is None or len(come[0]) != len(row):
        return None
    lines = dict(come[1])
    lines.update((cell, line) for cell, line in zip(come[0], row) if not isinstance(cell, tuple))
    found = [lines[place] for place in range(length)]
    return found if after(found, deeds) == row else None


def files_ahead(deed, later):
    """What a path may have ahead of two deeds that go one behind the other: rows, or None for no file."""
    first = deed or later
    if first[0] == "new":
        return [None]
    if first[0] == "gone":
        return [first[1]]
    if deed and later and later[0] == "gone":
        found = row_ahead(deed[1], later[1])
        return [] if found is None else [found]
    if deed and later and later[0] == "edit":
        return rows_of_both(deed[1], later[1])
    return rows_of_both(first[1], [])


def all_files(first, second):
    """For each path all that it may have ahead of two changes; None where they don't follow."""
    files = {}
    for path in sorted(set(first) | set(second)):
        files[path] = []
        for row in files_ahead(first.get(path), second.get(path)):
            between = file_after(row, first.get(path))
            if between is not False and file_after(between, second.get(path)) is not False:
                files[path].append(row)
        if not files[path]:
            return None
    least = {path: rows[0] for path, rows in files.items() if rows[0] is not None}
    if len(least) > 8 or tree_after(least, first) is None or tree_after(tree_after(least, first), second) is None:
        return None
    return files


def do_nothing(deed, later):
    """[2.6]: whether two deeds at a path together do nothing."""
    if deed is None or later is None:
        return False
    if (deed[0], later[0]) == ("edit", "edit"):
        return len(deed[1]) + len(later[1]) == 2 * len(shared_lines(deed[1], later[1]))
    return (deed[0], later[0]) in (("new", "gone"), ("gone", "new")) and deed[1] == later[1]


class Followed(unittest.TestCase):
    def check_followed(self, chance, first, second):
        files = all_files(first, second)
        if files is None:
            check_refused(self, NoFit, followed, first, second)
            return False
        one = followed(first, second)
        self.assertIs(is_change(one), True, (first, second, one))
        self.assertEqual(set(one), set(path for path in files if not do_nothing(first.get(path), second.get(path))))
        for turn in range(4):
            tree = {path: chance.choice(rows) for path, rows in files.items()}
            tree = {path: row for path, row in tree.items() if row is not None}
            self.check_tree(tree, first, second, one)
            more = [path for path in PATHS if path not in files]
            for path in more[:chance.randint(0, 8)]:
                tree[path] = some_row(chance, 3)
            self.check_tree(tree, first, second, one)
        return True

    def check_tree(self, tree, first, second, one):
        between = tree_after(tree, first) if len(tree) <= 8 else None
        come = tree_after(between, second) if between is not None else None
        if come is not None:
            self.assertEqual(changed(tree, one), come, (tree, first, second, one))

    def test_files_put(self):
        new = {"a": ("new", ["x"])}
        self.assertEqual(followed(new, {"a": ("gone", ["x"])}), {})
        self.assertEqual(followed(new, {"a": ("edit", [("put", 1, "y")])}), {"a": ("new", ["x", "y"])})
        self.assertEqual(followed(new, {"b": ("new", [])}), {"a": ("new", ["x"]), "b": ("new", [])})
        self.assertEqual(followed(new, {}), new)
        self.assertEqual(followed({}, new), new)
        for later in (("new", ["x"]), ("new", []), ("gone", []), ("gone", ["x", "x"]), ("edit", TAKE),
                      ("edit", [("put", 2, "y")]), ("edit", [("put", 0, "y")] * 40)):
            check_refused(self, NoFit, followed, new, {"a": later})

    def test_files_taken(self):
        gone = {"a": ("gone", ["x"])}
        self.assertEqual(followed(gone, {"a": ("new", ["x"])}), {})
        self.assertEqual(followed(gone, {"b": ("gone", [])}), {"a": ("gone", ["x"]), "b": ("gone", [])})
        one = followed(gone, {"a": ("new", ["y"])})
        self.assertEqual(one["a"][0], "edit")
        self.assertEqual(changed({"a": ["x"]}, one), {"a": ["y"]})
        for later in (("gone", ["x"]), ("gone", []), ("edit", PUT), ("edit", [("take", 0, "x")])):
            check_refused(self, NoFit, followed, gone, {"a": later})

    def test_files_edited(self):
        put = {"a": ("edit", [("put", 0, "x")])}
        self.assertEqual(followed(put, {"a": ("edit", [("take", 0, "x")])}), {})
        self.assertEqual(followed(put, {"a": ("gone", ["x", "y"])}), {"a": ("gone", ["y"])})
        self.assertEqual(followed(put, {"a": ("gone", ["x"])}), {"a": ("gone", [])})
        take = {"a": ("edit", [("take", 1, "x")])}
        self.assertEqual(followed(take, {"a": ("gone", ["y", "z"])}), {"a": ("gone", ["y", "x", "z"])})
        for first, later in ((put, ("new", ["x"])), (put, ("gone", [])), (put, ("gone", ["y"])),
                             (take, ("gone", [])), (take, ("gone", own_lines(40))), (put, ("edit", TAKE)),
                             (take, ("new", [])), (put, ("edit", [("put", 0, "y")] * 40))):
            check_refused(self, NoFit, followed, first, {"a": later})

    def test_a_line_taken_and_put_again_is_no_edit_without_deeds(self):
        one = followed({"a": ("edit", [("take", 0, "x")])}, {"a": ("edit", [("put", 0, "x")])})
        self.assertEqual(changed({"a": ["x", "y"]}, one), {"a": ["x", "y"]})
        self.assertEqual(sorted(deed[0] for deed in one["a"][1]), ["put", "take"])

    def test_all_deeds_of_one_path(self):
        rows = all_rows(("a", "b"), 2)
        edits = [deeds for deeds in (edit(old, new) for old in rows for new in rows) if deeds]
        deeds = [("new", row) for row in rows] + [("gone", row) for row in rows]
        deeds += [("edit", list(one)) for one in sorted(set(tuple(one) for one in edits))]
        answers = collections.Counter()
        for chance in chances(35, 1500):
            first, second = {"a": chance.choice(deeds)}, {"a": chance.choice(deeds)}
            answers[self.check_followed(chance, first, second)] += 1
        self.assertGreater(min(answers[True], answers[False]), 100, answers)

    def test_changes_that_follow_by_chance(self):
        for chance, tree in some_trees(36, 250):
            first = some_change(chance, tree)
            second = some_change(chance, tree_after(tree, first))
            self.assertTrue(self.check_followed(chance, first, second))
            one = followed(first, second)
            self.assertIs(leads(tree, tree_after(tree_after(tree, first), second), one), True)

    def test_a_change_and_its_turned_one(self):
        for chance, tree in some_trees(37, 100):
            deeds = some_change(chance, tree)
            one = followed(deeds, turned_change(deeds))
            self.assertEqual(changed(tree, one), tree)
            for path in one:
                self.assertEqual(deeds[path][0], "edit")

    def test_changes_that_may_follow_by_chance(self):
        answers = collections.Counter()
        for chance, tree in some_trees(38, 500):
            tree = {path: row[:1] for path, row in tree.items()}
            first = some_change(chance, tree)
            other = {path: row[:1] for path, row in some_tree(chance, 8, 1).items()}
            second = some_change(chance, other)
            second = {path: second[path] for path in sorted(second)[:chance.randint(1, 2)]}
            answers[self.check_followed(chance, first, second)] += 1
        self.assertGreater(min(answers[True], answers[False]), 50, answers)

    def test_too_many_files_ahead_between_and_behind(self):
        chance = chances(39, 1)[0]
        kinds = {"new": ("new", ["a"]), "gone": ("gone", ["b"]), "edit": ("edit", PUT)}
        for word, later in itertools.product(sorted(kinds), repeat=2):
            for many in range(9):
                for more in range(9):
                    first = {path: kinds[word] for path in NAMES[:many]}
                    second = {path: kinds[later] for path in NAMES[9:9 + more]}
                    needs = [many * (word != "new") + more * (later != "new"),
                             many * (word != "gone") + more * (later != "new"),
                             many * (word != "gone") + more * (later != "gone")]
                    truth = self.check_followed(chance, first, second)
                    self.assertIs(truth, max(needs) <= 8, (word, many, later, more))

    def test_too_many_files_between_alone(self):
        puts = {path: ("new", []) for path in NAMES[:8]}
        takes = {path: ("gone", []) for path in NAMES[:8]}
        self.assertEqual(followed(puts, takes), {})
        check_refused(self, NoFit, followed, puts, {"x": ("edit", PUT), NAMES[0]: ("gone", [])})
        takes[NAMES[8]] = takes.pop(NAMES[7])
        check_refused(self, NoFit, followed, puts, takes)

    def test_eight_files_taken_and_eight_others_put(self):
        first, second = named(0, 8, 0), {path: ("new", ["a"]) for path in PATHS[:8]}
        self.assertEqual(followed(first, second), {**first, **second})
        check_refused(self, NoFit, followed, second, {path: ("gone", ["b"]) for path in NAMES[:8]})
        self.assertEqual(followed(first, {path: ("new", ["b"]) for path in first}), {})

    def test_eight_files_of_forty_lines(self):
        full, chance = full_tree(), chances(40, 1)[0]
        other = {path: row[::-1] for path, row in full.items()}
        last = {path: [own_line(place) for place in range(400, 440)] for path in full}
        for trees in ((full, other, last), (full, other, full), (full, {}, full), ({}, full, last), (full, last, {}),
                      (full, {}, last), (full, full, last), (full, dict(zip(NAMES, full.values())), last)):
            first, second = change(trees[0], trees[1]), change(trees[1], trees[2])
            self.assertTrue(self.check_followed(chance, first, second))
            self.assertIs(leads(trees[0], trees[2], followed(first, second)), True)

    def test_what_is_no_change_goes_ahead(self):
        for bad in BAD_CHANGES:
            for good in ({}, {"a": ("new", [])}, {"a": ("gone", ["q"])}, named(8, 0, 0)):
                check_refused(self, BadChange, followed, bad, good)
                check_refused(self, BadChange, followed, good, bad)
            check_refused(self, BadChange, followed, bad, bad)

    def test_what_is_told_is_the_askers_own(self):
        row = ["q"]
        check_own(self, followed, {"a": ("gone", ["x"]), "b": ("edit", list(PUT)), "d": ("new", [])},
                  {"a": ("new", ["z"]), "c": ("edit", list(PUT)), "e": ("gone", ["z"]), "d": ("edit", list(PUT))})
        check_own(self, followed, {"a": ("new", row), "b": ("new", row)}, {})
        check_own(self, followed, {}, {"a": ("gone", row), "b": ("gone", row)})
        check_own(self, followed, {}, {"a": ("new", row), "b": ("edit", list(PUT))})
        check_own(self, followed, {"b": ("edit", list(PUT))}, {"b": ("gone", ["a", "b"])})
        check_own(self, followed, {"b": ("edit", list(PUT))}, {"b": ("edit", list(PUT))})
        check_own(self, followed, {}, {})


def moves_by_paths(old, new):
    """[2.7] word by word."""
    pairs = []
    for path in sorted(set(new) - set(old)):
        left = [other for other in set(old) - set(new) if old[other] == new[path]]
        left = [other for other in left if other not in [pair[0] for pair in pairs]]
        if left:
            pairs.append((min(left), path))
    return pairs


class Moves(unittest.TestCase):
    def test_plain_trees(self):
        self.assertEqual(moves({"a": ["x"]}, {"b": ["x"]}), [("a", "b")])
        self.assertEqual(moves({"a": ["x"]}, {"b": ["y"]}), [])
        self.assertEqual(moves({"a": ["x"]}, {"a": ["x"], "b": ["x"]}), [])
        self.assertEqual(moves({"a": ["x"], "b": ["x"]}, {"b": ["x"]}), [])
        self.assertEqual(moves({"b": [], "a": []}, {"z": [], "c": []}), [("a", "c"), ("b", "z")])
        self.assertEqual(moves({"b": [], "a": []}, {"c": []}), [("a", "c")])
        self.assertEqual(moves({"b": []}, {"d": [], "c": []}), [("b", "c")])
        self.assertEqual(moves({"a": ["x"], "b": ["y"]}, {"c": ["y"], "d": ["x"]}), [("b", "c"), ("a", "d")])
        self.assertEqual(moves({"z": ["x"]}, {"a": ["x"]}), [("z", "a")])
        self.assertEqual(moves({"a": ["x", "y"]}, {"b": ["y", "x"]}), [])
        self.assertEqual(moves({}, {}), [])

    def test_by_chance(self):
        found = 0
        for chance in chances(41, 500):
            trees = []
            for turn in range(2):
                paths = chance.sample(PATHS, chance.randint(0, 8))
                trees.append({path: chance.choice(([], [""], ["a"], ["a", "b"])) for path in paths})
            told = moves(trees[0], trees[1])
            self.assertEqual(told, moves_by_paths(trees[0], trees[1]), trees)
            self.assertIs(type(told), list)
            self.assertTrue(all(type(pair) is tuple for pair in told))
            found += len(told)
        self.assertGreater(found, 200)

    def test_eight_files_of_forty_lines(self):
        full = full_tree()
        self.assertEqual(moves(full, dict(zip(NAMES, full.values()))), list(zip(PATHS, NAMES[:8])))
        same = {path: own_lines(40) for path in PATHS[:8]}
        self.assertEqual(moves(same, {path: own_lines(40) for path in NAMES[:8]}), list(zip(sorted(same), NAMES)))
        self.assertEqual(moves(full, full), [])

    def test_what_is_no_tree(self):
        for bad in BAD_TREES:
            check_refused(self, BadTree, moves, bad, {})
            check_refused(self, BadTree, moves, {}, bad)
            check_refused(self, BadTree, moves, bad, bad)

    def test_what_is_told_is_the_askers_own(self):
        check_own(self, moves, {"b": [], "a": ["x"]}, {"c": ["x"], "d": []})
        check_own(self, moves, {}, {})


class Leads(unittest.TestCase):
    def test_plain_changes(self):
        old, new = {"a": ["x"], "b": []}, {"b": ["a"], "c": []}
        right = {"a": ("gone", ["x"]), "b": ("edit", PUT), "c": ("new", [])}
        self.assertIs(leads(old, new, right), True)
        self.assertIs(leads(new, old, right), False)
        self.assertIs(leads(new, old, turned_change(right)), True)
        self.assertIs(leads(old, old, {}), True)
        self.assertIs(leads(old, new, {}), False)
        for path in right:
            less = {other: deed for other, deed in right.items() if other != path}
            self.assertIs(leads(old, new, less), False)
        self.assertIs(leads(old, new, {**right, "d": ("new", [])}), False)
        self.assertIs(leads(old, new, {**right, "c": ("new", ["a"])}), False)
        self.assertIs(leads(old, new, {**right, "b": ("edit", [("put", 0, "b")])}), False)

    def test_another_change_than_the_one_told(self):
        self.assertIs(leads({"a": ["a", "a"]}, {"a": ["a"]}, {"a": ("edit", TAKE)}), True)
        self.assertIs(leads({"a": ["a", "a"]}, {"a": ["a"]}, {"a": ("edit", [("take", 1, "a")])}), True)
        self.assertIs(leads({"a": ["a"]}, {"a": ["a"]}, {"a": ("edit", TAKE + [("put", 1, "a")])}), True)

    def test_where_it_does_not_fit(self):
        self.assertIs(leads({}, {}, {"a": ("gone", [])}), False)
        self.assertIs(leads({"a": []}, {"a": []}, {"a": ("new", [])}), False)
        self.assertIs(leads({"a": []}, {"a": []}, {"a": ("edit", TAKE)}), False)
        eight = {path: [] for path in PATHS[:8]}
        self.assertIs(leads(eight, eight, {"q": ("new", [])}), False)

    def test_the_order_of_files_does_not_count(self):
        self.assertIs(leads({"a": [], "b": ["x"]}, {"b": ["x"], "a": []}, {}), True)
        self.assertIs(leads({"b": []}, {"b": [], "a": []}, {"a": ("new", [])}), True)

    def test_by_chance(self):
        for chance, tree in some_trees(42, 200):
            deeds = some_change(chance, tree)
            come = tree_after(tree, deeds)
            self.assertIs(leads(tree, come, deeds), True)
            other = some_tree(chance)
            self.assertIs(leads(tree, other, deeds), come == other)
            self.assertIs(leads(other, come, deeds), tree_after(other, deeds) == come)

    def test_refusals_in_order(self):
        for bad in BAD_TREES:
            for deeds in BAD_CHANGES + ({}, {"q": ("gone", [])}):
                check_refused(self, BadTree, leads, bad, {}, deeds)
                check_refused(self, BadTree, leads, {}, bad, deeds)
            check_refused(self, BadTree, leads, bad, bad, {})
        for deeds in BAD_CHANGES:
            check_refused(self, BadChange, leads, {}, {}, deeds)
            check_refused(self, BadChange, leads, {"a": ["a"]}, {"a": []}, deeds)

    def test_nothing_is_changed(self):
        check_own(self, leads, {"a": ["x"], "b": []}, {"b": ["a"]}, {"a": ("gone", ["x"]), "b": ("edit", list(PUT))})
        check_own(self, leads, {"a": ["x"], "b": []}, {"b": ["a"]}, {"a": ("new", ["x"])})


if __name__ == "__main__":
    unittest.main()
