"""Over the whole program: of a store's history all papers told hold by the program's own looks, and packs read back."""

import unittest

from pasthall.asking import fewest, length, plan, plan_holds, suspects
from pasthall.bound import contrary, contrary_holds
from pasthall.changes import change, leads
from pasthall.commons import common_holds, common_paper
from pasthall.errors import PastError
from pasthall.kept import kept, ladder, ladder_holds
from pasthall.lives import lives
from pasthall.packing import packed
from pasthall.packs import unpacked
from pasthall.pieces import pieces, pieces_hold
from pasthall.store import Store
from pasthall.sums import lacks, sum_holds, sum_paper, sums
from pasthall.treemerge import common_tree, merged_versions
from pasthall.whence import chain, chain_holds, whence
from tests.helpers import chances, lines_at, own_lines, shown, some_known, step_on

NAMES = ("main", "side", "left", "right")


def do_something(chance, store):
    """One deed by chance; it may be refused."""
    name, other = chance.sample(NAMES, 2)
    turn = chance.randrange(12)
    try:
        if turn < 6:
            tree = store.history().tree(store.version(name))
            store.save(name, step_on(chance, step_on(chance, tree)))
        elif turn < 9:
            store.join(name, other)
        elif turn == 9:
            store.fork(name, other)
        elif turn == 10:
            store.undo()
        else:
            store.redo(0)
    except PastError:
        pass


def some_store(chance, deeds):
    """A store with versions saved, joined and undone by chance."""
    store = Store()
    store.begin("main", {"a": own_lines(9), "b": own_lines(4), "c": []})
    for name in NAMES[1:]:
        store.fork("main", name)
    for turn in range(deeds):
        do_something(chance, store)
    return store


class Whole(unittest.TestCase):
    def histories(self, seed, many, deeds=40):
        found = [(chance, some_store(chance, deeds).history()) for chance in chances(seed, many)]
        # There is something to look at: merges, too.
        self.assertGreater(max(history.many() for chance, history in found), 12)
        self.assertTrue(any(len(elders) > 1 for chance, history in found for elders in history.web()))
        return found

    def test_sum_papers(self):
        for chance, history in self.histories(140, 12):
            told = sums(history)
            for version, number in enumerate(told):
                self.assertIs(sum_holds(number, sum_paper(history, version)), True)
                self.assertIs(sum_holds(number + 1, sum_paper(history, version)), False)
            self.assertEqual(lacks(history, told), [])
            self.assertEqual(lacks(history, []), list(range(history.many())))

    def test_common_papers(self):
        for chance, history in self.histories(141, 12):
            web = history.web()
            for one in range(len(web)):
                for other in range(one, len(web)):
                    paper = common_paper(web, [one, other])
                    self.assertIs(common_holds(web, [one, other], paper), True)
                    if len(paper[0]) == 1:
                        self.assertEqual(common_tree(history, [one, other]), history.tree(paper[0][0]))

    def test_chains_and_lives(self):
        for chance, history in self.histories(142, 6, 25):
            for path in ("a", "b"):
                for version, place in lines_at(history, path):
                    told = chain(history, version, path, place)
                    self.assertIs(chain_holds(history, path, told), True)
                    self.assertEqual(whence(history, version, path)[place], told[-1])
                line = chance.choice(lines_at(history, path) or [None])
                if line:
                    for version, place in lives(history, line[0], path, line[1]):
                        self.assertIn(line, chain(history, version, path, place))

    def test_plans_and_contrary_tables(self):
        asked = 0
        for chance, history in self.histories(143, 40):
            web = history.web()
            for turn in range(5):
                bad, goods = some_known(chance, web)
                if 1 <= len(suspects(web, bad, goods)) <= 10:
                    asked += 1
                    many, told = fewest(web, bad, goods), plan(web, bad, goods)
                    self.assertEqual(length(told), many)
                    self.assertIs(plan_holds(web, bad, goods, told), True)
                    self.assertIs(contrary_holds(web, bad, goods, many, contrary(web, bad, goods, many)), True)
        self.assertGreater(asked, 50)

    def test_ladders_changes_and_pieces(self):
        for chance, history in self.histories(144, 12):
            for version, elders in enumerate(history.web()):
                tree = history.tree(version)
                for elder in elders:
                    old = history.tree(elder)
                    self.assertIs(leads(old, tree, change(old, tree)), True)
                    for path in sorted(set(old) & set(tree)):
                        rungs = ladder(old[path], tree[path])
                        self.assertIs(ladder_holds(old[path], tree[path], rungs), True)
                        self.assertEqual(len(rungs[-1]), len(kept(old[path], tree[path])))
                        told = pieces(old[path], tree[path], old[path])
                        self.assertIs(pieces_hold(old[path], tree[path], old[path], told), True)

    def test_packs(self):
        for chance, history in self.histories(145, 12):
            for depth in range(10):
                self.assertEqual(shown(unpacked(packed(history, depth))), shown(history))

    def test_what_a_join_put_is_what_the_two_merged_are(self):
        for chance, history in self.histories(146, 20):
            for version, elders in enumerate(history.web()):
                if len(elders) == 2:
                    both = [merged_versions(history, *elders), merged_versions(history, *elders[::-1])]
                    self.assertIn(history.tree(version), both)

    def test_a_history_read_back_tells_the_same(self):
        for chance, history in self.histories(147, 8):
            other = unpacked(packed(history, chance.randrange(10)))
            self.assertEqual(sums(other), sums(history))
            self.assertEqual(lacks(other, sums(history)), [])
            for version in range(history.many()):
                for path in history.tree(version):
                    self.assertEqual(whence(other, version, path), whence(history, version, path))


if __name__ == "__main__":
    unittest.main()
