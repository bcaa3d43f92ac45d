"""The store, promises [8.1] to [8.4], and [1] of it."""

import itertools
import unittest

from pasthall.errors import BadTree, BadWeb, Clash, NameTaken, NoName, Nothing
from pasthall.histories import History
from pasthall.store import Store
from pasthall.treemerge import merged_versions
from tests.helpers import (BAD_TREES, PATHS, chances, check_own, check_refused, history_of, holders, merged_by_words,
                           outcome, own_lines, set_above, shown, spoil, step_on)

NAMES = ("main", "side", "x", "abcdefgh")


def told_by(store):
    """All that a store tells of itself."""
    return (store.names(), store.state(), store.came_of(), shown(store.history()))


def rows(text):
    """A tree of one file, "a", with these lines."""
    return {"a": text.split()}


def two_names():
    """Names that point at two versions made of one, which can be merged: states 0 to 4."""
    store = Store()
    store.begin("main", rows("a b c"))
    store.fork("main", "side")
    store.save("main", rows("x a b c"))
    store.save("side", rows("a b c y"))
    return store


def full_store(many=40):
    """A store with so many versions, the last two of them apart and mergeable."""
    store = Store()
    store.begin("main", rows("a b c"))
    store.fork("main", "side")
    for turn in range(many - 3):
        store.save("main", rows("a b c"))
    store.save("side", rows("a b c y"))
    store.save("main", rows("x a b c"))
    return store


class Model:
    """[8.1] to [8.4] word by word, for deeds that may be done."""

    def __init__(self):
        self.versions, self.states, self.now = [], [(None, {})], 0

    def names(self):
        return self.states[self.now][1]

    def web(self):
        return [elders for elders, tree in self.versions]

    def history(self):
        return history_of(self.web(), [tree for elders, tree in self.versions])

    def add(self, elders, tree):
        self.versions.append((elders, tree))
        return len(self.versions) - 1

    def go(self, names):
        self.states.append((self.now, names))
        self.now = len(self.states) - 1

    def point(self, name, version):
        self.go({**self.names(), name: version})
        return version

    def refusal(self, word, name, other=None):
        """The first refusal of a deed with trees that are trees, or None; of a join without its merge."""
        if word == "begin":
            if name in self.names():
                return "NameTaken"
        elif name not in self.names():
            return "NoName"
        if word == "fork" and other in self.names():
            return "NameTaken"
        if word == "join" and other not in self.names():
            return "NoName"
        return "BadWeb" if word in ("begin", "save") and len(self.versions) == 40 else None

    def join(self, name, other):
        """The outcome of a join of names that are there."""
        own, theirs = self.names()[name], self.names()[other]
        if theirs in set_above(self.web(), own):
            return ("told", own)
        if own in set_above(self.web(), theirs):
            return ("told", self.point(name, theirs))
        come = merged_by_words(self.history(), own, theirs)
        if come[0] != "told":
            return come
        if len(self.versions) == 40:
            return ("BadWeb", None)
        return ("told", self.point(name, self.add((min(own, theirs), max(own, theirs)), come[1])))

    def deed(self, word, name, more):
        refused = self.refusal(word, name, more)
        if refused:
            return (refused, None)
        if word == "begin":
            return ("told", self.point(name, self.add((), more)))
        version = self.names()[name]
        if word == "save":
            return ("told", self.point(name, self.add((version,), more)))
        if word == "fork":
            return ("told", self.point(more, version))
        if word == "drop":
            self.go({key: value for key, value in self.names().items() if key != name})
            return ("told", version)
        return self.join(name, more)

    def undo(self):
        if self.states[self.now][0] is None:
            return ("Nothing", None)
        self.now = self.states[self.now][0]
        return ("told", self.now)

    def redo(self, number):
        later = [state for state, (origin, names) in enumerate(self.states) if origin == self.now]
        if number not in range(len(later)):
            return ("Nothing", None)
        self.now = later[number]
        return ("told", self.now)

    def told(self):
        return (self.names(), self.now, [origin for origin, names in self.states], shown(self.history()))


class Deeds(unittest.TestCase):
    def test_at_first(self):
        store = Store()
        self.assertEqual(told_by(store), ({}, 0, [None], (0, [], [])))
        self.assertIs(type(store.history()), History)

    def test_begin(self):
        store = Store()
        self.assertEqual(store.begin("main", rows("a")), 0)
        self.assertEqual(told_by(store), ({"main": 0}, 1, [None, 0], (1, [()], [rows("a")])))
        self.assertEqual(store.begin("side", {}), 1)
        self.assertEqual(told_by(store), ({"main": 0, "side": 1}, 2, [None, 0, 1], (2, [(), ()], [rows("a"), {}])))

    def test_save(self):
        store = Store()
        store.begin("main", {})
        self.assertEqual(store.save("main", rows("a")), 1)
        self.assertEqual(store.save("main", rows("a")), 2)
        self.assertEqual(store.version("main"), 2)
        self.assertEqual(told_by(store), ({"main": 2}, 3, [None, 0, 1, 2],
                                          (3, [(), (0,), (1,)], [{}, rows("a"), rows("a")])))

    def test_fork(self):
        store = Store()
        store.begin("main", {})
        store.save("main", rows("a"))
        self.assertEqual(store.fork("main", "side"), 1)
        self.assertEqual(store.names(), {"main": 1, "side": 1})
        self.assertEqual(store.history().many(), 2)
        self.assertEqual(store.save("side", rows("b")), 2)
        self.assertEqual(store.save("main", rows("c")), 3)
        self.assertEqual(store.names(), {"main": 3, "side": 2})
        self.assertEqual(store.history().web(), [(), (0,), (1,), (1,)])

    def test_drop(self):
        store = two_names()
        self.assertEqual(store.drop("side"), 2)
        self.assertEqual(store.names(), {"main": 1})
        self.assertEqual(store.state(), 5)
        self.assertEqual(store.history().many(), 3)
        check_refused(self, NoName, store.version, "side")
        self.assertEqual(store.drop("main"), 1)
        self.assertEqual(store.names(), {})
        self.assertEqual(store.begin("side", {}), 3)

    def test_version(self):
        store = two_names()
        self.assertEqual((store.version("main"), store.version("side")), (1, 2))
        for name in ("x", "", "Main", "mainn", "mai", "a b"):
            check_refused(self, NoName, store.version, name)
        check_refused(self, NoName, Store().version, "main")

    def test_each_name_of_eight_letters_or_one(self):
        store = Store()
        for version, name in enumerate(NAMES):
            self.assertEqual(store.begin(name, {}), version)
        self.assertEqual(store.names(), {name: version for version, name in enumerate(NAMES)})


class Join(unittest.TestCase):
    def test_the_others_version_above_its_own(self):
        store = Store()
        store.begin("main", {})
        store.fork("main", "side")
        store.save("main", rows("a"))
        store.save("main", rows("b"))
        before = told_by(store)
        self.assertEqual(store.join("main", "side"), 2)
        self.assertEqual(told_by(store), before)

    def test_both_at_one_version_and_a_name_with_itself(self):
        store = Store()
        store.begin("main", {})
        store.fork("main", "side")
        before = told_by(store)
        self.assertEqual(store.join("main", "side"), 0)
        self.assertEqual(store.join("main", "main"), 0)
        self.assertEqual(told_by(store), before)
        store = full_store()
        before = told_by(store)
        self.assertEqual(store.join("main", "main"), 39)
        self.assertEqual(told_by(store), before)

    def test_its_own_above_the_others_version(self):
        store = Store()
        store.begin("main", {})
        store.fork("main", "side")
        store.save("main", rows("a"))
        store.save("main", rows("b"))
        versions = shown(store.history())
        self.assertEqual(store.join("side", "main"), 2)
        self.assertEqual(told_by(store), ({"main": 2, "side": 2}, 5, [None, 0, 1, 2, 3, 4], versions))

    def test_merged(self):
        store = two_names()
        self.assertEqual(store.join("main", "side"), 3)
        self.assertEqual(store.names(), {"main": 3, "side": 2})
        self.assertEqual(store.state(), 5)
        self.assertEqual(store.history().web(), [(), (0,), (0,), (1, 2)])
        self.assertEqual(store.history().tree(3), rows("x a b c y"))
        # Now its own is above: the other one follows, and the first has nothing left to do.
        self.assertEqual(store.join("main", "side"), 3)
        self.assertEqual(store.state(), 5)
        self.assertEqual(store.join("side", "main"), 3)
        self.assertEqual((store.names(), store.state()), ({"main": 3, "side": 3}, 6))

    def test_the_elders_rise_also_where_its_own_version_is_the_later_one(self):
        store = two_names()
        self.assertEqual(store.join("side", "main"), 3)
        self.assertEqual(store.names(), {"main": 1, "side": 3})
        self.assertEqual(store.history().web()[3], (1, 2))
        self.assertEqual(store.history().tree(3), rows("x a b c y"))

    def test_its_own_version_is_the_one(self):
        # Crossing merges, so that what is common is itself a merge; the outcome is that of merged_versions.
        store = two_names()
        store.fork("main", "left")
        store.fork("side", "right")
        store.join("left", "right")
        store.join("right", "main")
        store.save("left", rows("x l a b c y"))
        store.save("right", rows("x a b c y r"))
        expected = merged_versions(store.history(), store.version("right"), store.version("left"))
        number = store.join("right", "left")
        self.assertEqual(store.history().tree(number), expected)
        self.assertEqual(expected, rows("x l a b c y r"))

    def test_without_a_common_version(self):
        store = Store()
        store.begin("main", {"a": ["x"]})
        store.begin("side", {"b": ["y"]})
        self.assertEqual(store.join("side", "main"), 2)
        self.assertEqual(store.history().tree(2), {"a": ["x"], "b": ["y"]})
        self.assertEqual(store.history().web(), [(), (), (0, 1)])

    def test_clash(self):
        store = Store()
        store.begin("main", {"a": ["x"], "b": [], "c": ["z"]})
        store.fork("main", "side")
        store.save("main", {"a": ["y"], "b": ["m"], "c": ["z"]})
        store.save("side", {"a": ["n"], "c": ["z"]})
        for one, other in (("main", "side"), ("side", "main")):
            before = told_by(store)
            self.assertEqual(outcome(store.join, one, other), ("Clash", ["a", "b"]))
            check_refused(self, Clash, store.join, one, other)
            self.assertEqual(told_by(store), before)
        self.assertEqual(store.save("main", {}), 3)

    def test_too_many_files(self):
        store = Store()
        store.begin("main", {path: [] for path in PATHS[:5]})
        store.begin("side", {path: [] for path in PATHS[5:9]})
        before = told_by(store)
        for one, other in (("main", "side"), ("side", "main")):
            check_refused(self, BadTree, store.join, one, other)
            self.assertEqual(told_by(store), before)


class UndoAndRedo(unittest.TestCase):
    def test_back_and_forth(self):
        store = two_names()
        seen = [{}, {"main": 0}, {"main": 0, "side": 0}, {"main": 1, "side": 0}, {"main": 1, "side": 2}]
        versions = shown(store.history())
        for state in (3, 2, 1, 0):
            self.assertEqual(store.undo(), state)
            self.assertEqual(told_by(store), (seen[state], state, [None, 0, 1, 2, 3], versions))
        check_refused(self, Nothing, store.undo)
        for state in (1, 2, 3, 4):
            self.assertEqual(store.redo(0), state)
            self.assertEqual(told_by(store), (seen[state], state, [None, 0, 1, 2, 3], versions))
        check_refused(self, Nothing, store.redo, 0)

    def test_states_that_came_of_one_in_the_order_of_their_numbers(self):
        store = Store()
        store.begin("main", {})
        for number in range(3):
            self.assertEqual(store.save("main", rows("a")), number + 1)
            self.assertEqual(store.undo(), 1)
        self.assertEqual(store.came_of(), [None, 0, 1, 1, 1])
        self.assertEqual(store.history().web(), [(), (0,), (0,), (0,)])
        for number in (2, 0, 1):
            self.assertEqual(store.redo(number), number + 2)
            self.assertEqual(store.names(), {"main": number + 1})
            self.assertEqual(store.save("main", {}), store.history().many() - 1)
            store.undo()
            store.undo()
        self.assertEqual(store.came_of(), [None, 0, 1, 1, 1, 4, 2, 3])
        store.redo(2)
        self.assertEqual(store.redo(0), 5)

    def test_numbers_below_nought_and_beyond(self):
        store = Store()
        store.begin("main", {})
        store.undo()
        store.begin("side", {})
        store.undo()
        before = told_by(store)
        for number in (-1, -2, -3, 2, 3, 100):
            check_refused(self, Nothing, store.redo, number)
        self.assertEqual(told_by(store), before)
        self.assertEqual(store.redo(1), 2)
        for number in (-1, 0, 1):
            check_refused(self, Nothing, store.redo, number)
        self.assertEqual(store.state(), 2)

    def test_nothing_at_first(self):
        store = Store()
        check_refused(self, Nothing, store.undo)
        for number in (-1, 0, 1):
            check_refused(self, Nothing, store.redo, number)
        self.assertEqual(told_by(store), ({}, 0, [None], (0, [], [])))

    def test_versions_stay(self):
        store = Store()
        store.begin("main", rows("a"))
        store.undo()
        self.assertEqual((store.names(), store.history().many()), ({}, 1))
        # The name is free again, and the version's number is not.
        self.assertEqual(store.begin("main", rows("b")), 1)
        self.assertEqual(store.history().web(), [(), ()])
        self.assertEqual(store.came_of(), [None, 0, 0])
        store.undo()
        store.redo(0)
        self.assertEqual(store.names(), {"main": 0})

    def test_a_drop_undone(self):
        store = two_names()
        store.drop("main")
        store.undo()
        self.assertEqual(store.names(), {"main": 1, "side": 2})
        self.assertEqual(store.redo(0), 5)
        self.assertEqual(store.names(), {"side": 2})

    def test_a_join_undone(self):
        store = two_names()
        store.join("main", "side")
        self.assertEqual(store.undo(), 4)
        self.assertEqual(store.names(), {"main": 1, "side": 2})
        self.assertEqual(store.history().many(), 4)
        self.assertEqual(store.join("main", "side"), 4)
        self.assertEqual(store.state(), 6)
        self.assertEqual(store.came_of()[5:], [4, 4])


class Refused(unittest.TestCase):
    def check(self, store, error, word, *handed):
        before = told_by(store)
        check_refused(self, error, getattr(store, word), *handed)
        self.assertEqual(told_by(store), before)

    def test_begin(self):
        for tree in ({}, rows("a")) + BAD_TREES:
            self.check(two_names(), NameTaken, "begin", "main", tree)
            self.check(full_store(), NameTaken, "begin", "side", tree)
            self.check(full_store(), BadWeb, "begin", "x", tree)
        for tree in BAD_TREES:
            self.check(two_names(), BadTree, "begin", "x", tree)
            self.check(Store(), BadTree, "begin", "main", tree)
            self.check(full_store(39), BadTree, "begin", "x", tree)

    def test_save(self):
        for tree in ({}, rows("a")) + BAD_TREES:
            self.check(two_names(), NoName, "save", "x", tree)
            self.check(Store(), NoName, "save", "main", tree)
            self.check(full_store(), NoName, "save", "x", tree)
            self.check(full_store(), BadWeb, "save", "main", tree)
        for tree in BAD_TREES:
            self.check(two_names(), BadTree, "save", "main", tree)
            self.check(full_store(39), BadTree, "save", "main", tree)

    def test_fork(self):
        self.check(Store(), NoName, "fork", "main", "side")
        for store in (two_names(), full_store()):
            for other in ("x", "main", "side", "y"):
                self.check(store, NoName, "fork", "x", other)
            for name, other in itertools.product(("main", "side"), repeat=2):
                self.check(store, NameTaken, "fork", name, other)

    def test_drop(self):
        self.check(Store(), NoName, "drop", "main")
        for name in ("x", "", "Main"):
            self.check(two_names(), NoName, "drop", name)

    def test_join(self):
        self.check(Store(), NoName, "join", "main", "main")
        for store in (two_names(), full_store()):
            for name, other in (("x", "main"), ("main", "x"), ("x", "x"), ("x", "y")):
                self.check(store, NoName, "join", name, other)

    def test_a_name_that_was_dropped_or_undone(self):
        store = two_names()
        store.drop("side")
        for word, handed in (("save", ({},)), ("fork", ("x",)), ("drop", ()), ("join", ("main",))):
            self.check(store, NoName, word, "side", *handed)
        self.check(store, NoName, "join", "main", "side")
        store = two_names()
        for turn in range(3):
            store.undo()
        self.check(store, NoName, "save", "side", {})

    def test_the_forty_first_version(self):
        store = full_store(39)
        self.assertEqual(store.history().many(), 39)
        self.assertEqual(store.begin("x", {}), 39)
        store = full_store(39)
        self.assertEqual(store.save("main", {}), 39)
        store = full_store(39)
        self.assertEqual(store.join("main", "side"), 39)
        self.assertEqual(store.history().tree(39), rows("x a b c y"))
        store = full_store()
        self.check(store, BadWeb, "begin", "x", {})
        self.check(store, BadWeb, "save", "main", {})
        self.check(store, BadWeb, "join", "main", "side")
        self.check(store, BadWeb, "join", "side", "main")
        # What needs no version is done all the same.
        state = store.state()
        self.assertEqual(store.fork("main", "x"), 39)
        self.assertEqual(store.join("x", "main"), 39)
        self.assertEqual(store.drop("side"), 38)
        self.assertEqual(store.state(), state + 2)
        store.undo()
        self.check(store, BadWeb, "join", "x", "side")

    def test_undone_versions_count_too(self):
        store = Store()
        for turn in range(40):
            self.assertEqual(store.begin("main", {}), turn)
            store.undo()
        self.check(store, BadWeb, "begin", "main", {})

    def test_a_clash_comes_ahead_of_a_version_too_many(self):
        store = Store()
        store.begin("main", rows("a"))
        store.begin("side", rows("b"))
        store.begin("many", {path: own_lines(1) for path in PATHS[1:9]})
        store.begin("none", {"x": own_lines(1), "zzzzzzzz": []})
        while store.history().many() < 40:
            store.save("main", rows("c"))
        self.check(store, Clash, "join", "main", "side")
        self.check(store, BadTree, "join", "many", "none")
        self.check(store, BadWeb, "join", "main", "none")


class Own(unittest.TestCase):
    def test_the_history_is_the_askers_own(self):
        store = two_names()
        before = told_by(store)
        history = store.history()
        history.put_version((0, 1, 2), {"z": []})
        spoil(history.tree(0))
        self.assertEqual(told_by(store), before)
        self.assertEqual(store.history().many(), 3)
        self.assertEqual(store.save("main", rows("q")), 3)
        self.assertEqual(history.tree(3), {"z": []})
        self.assertEqual(history.many(), 4)

    def test_what_is_told_is_the_askers_own(self):
        store = two_names()
        before = told_by(store)
        for call in (store.names, store.came_of, store.state):
            check_own(self, call)
        check_own(self, store.version, "main")
        spoil(store.names())
        spoil(store.came_of())
        store.names().clear()
        self.assertEqual(told_by(store), before)
        store.undo()
        spoil(store.names())
        store.redo(0)
        self.assertEqual(told_by(store), before)

    def test_no_two_that_are_told_are_one(self):
        store = two_names()
        told = [store.names(), store.names(), store.came_of(), store.came_of()]
        for history in (store.history(), store.history()):
            told.append(history.web())
            told.extend(history.tree(version) for version in range(3))
        found = [id(holder) for holder in holders(told)]
        self.assertEqual(len(found), len(set(found)))

    def test_what_is_handed_in_is_neither_changed_nor_kept(self):
        store = Store()
        tree = {"a": ["x"], "b": []}
        store.begin("main", tree)
        store.save("main", tree)
        self.assertEqual(tree, {"a": ["x"], "b": []})
        spoil(tree)
        self.assertEqual(shown(store.history()), (2, [(), (0,)], [{"a": ["x"], "b": []}] * 2))

    def test_a_merged_tree_is_no_others(self):
        store = Store()
        store.begin("main", {"a": ["x"]})
        store.begin("side", {"b": ["y"]})
        store.join("main", "side")
        history = store.history()
        spoil(history.tree(2))
        self.assertEqual([history.tree(version) for version in range(2)], [{"a": ["x"]}, {"b": ["y"]}])

    def test_two_stores_have_nothing_in_common(self):
        one, other = two_names(), Store()
        self.assertEqual(told_by(other), ({}, 0, [None], (0, [], [])))
        before = told_by(one)
        other.begin("main", {})
        other.undo()
        other.begin("side", rows("z"))
        self.assertEqual(told_by(one), before)
        one.drop("side")
        self.assertEqual(told_by(other), ({"side": 1}, 2, [None, 0, 0], (2, [(), ()], [{}, rows("z")])))


class ByWords(unittest.TestCase):
    def some_tree_on(self, chance, model, name):
        """A tree made of the one that a name has, where it is there."""
        versions = model.versions
        tree = versions[model.names()[name]][1] if name in model.names() else {"a": own_lines(6), "b": own_lines(3)}
        for turn in range(chance.randrange(3)):
            tree = step_on(chance, tree)
        return {path: list(row) for path, row in tree.items()}

    def some_deed(self, chance, model):
        word = chance.choice(("begin", "save", "save", "save", "fork", "fork", "drop", "join", "join", "join"))
        name, other = chance.choice(NAMES), chance.choice(NAMES)
        if word in ("begin", "save"):
            return word, name, self.some_tree_on(chance, model, name)
        return word, name, other

    def test_by_chance(self):
        seen = {}
        for chance in chances(130, 60):
            store, model = Store(), Model()
            for turn in range(chance.choice((15, 60, 250))):
                if chance.randrange(4):
                    word, name, more = self.some_deed(chance, model)
                    handed = (name,) if word == "drop" else (name, more)
                    expected = model.deed(word, name, more)
                    told = outcome(getattr(store, word), *handed)
                elif chance.randrange(2):
                    word, told, expected = "undo", outcome(store.undo), model.undo()
                else:
                    number = chance.randint(-1, 2)
                    word, told, expected = "redo", outcome(store.redo, number), model.redo(number)
                self.assertEqual(told, expected, word)
                self.assertEqual((store.names(), store.state()), (model.names(), model.now))
                seen[word, expected[0]] = seen.get((word, expected[0]), 0) + 1
            self.assertEqual(told_by(store), model.told())
        for word in ("begin", "save", "fork", "drop", "join", "undo", "redo"):
            self.assertGreater(seen[word, "told"], 20)
        self.assertGreater(seen["join", "Clash"], 20)
        self.assertGreater(seen["save", "BadWeb"], 20)


if __name__ == "__main__":
    unittest.main()
