"""Webs, promises [2] and [3.1], and [1] of them."""

import itertools
import unittest

from pasthall.errors import BadWeb, NoVersion
from pasthall.webs import above, below, between, ends, is_web
from tests.helpers import BAD_WEBS, all_webs, chances, check_own, check_refused, dense_web, set_above, some_web

SMALL = all_webs(5)
GREAT = [some_web(chance) for chance in chances(31, 40)] + [dense_web(), [()] * 40]
# Two lines of versions that cross, and one version apart.
CROSSED = [(), (0,), (0,), (1, 2), (1, 2), (), (3, 4)]


class IsWeb(unittest.TestCase):
    def test_how_many_versions(self):
        for many in range(1, 41):
            self.assertIs(is_web([()] * many), True, many)
            self.assertIs(is_web(dense_web(many)), True, many)
        for many in (0, 41, 42, 80):
            self.assertIs(is_web([()] * many), False, many)
            self.assertIs(is_web(dense_web(many)), False, many)

    def test_how_many_elders(self):
        for many in range(4):
            self.assertIs(is_web([()] * 8 + [tuple(range(many))]), True, many)
        for many in (4, 5, 8):
            self.assertIs(is_web([()] * 8 + [tuple(range(many))]), False, many)

    def test_all_short_tuples(self):
        for many in range(5):
            for elders in itertools.product(range(-2, 6), repeat=many):
                good = sorted(set(elders)) == list(elders) and all(0 <= elder < 4 for elder in elders) and many <= 3
                self.assertIs(is_web([()] * 4 + [elders]), good, elders)
                self.assertIs(is_web([()] * 4 + [elders, (0, 4)]), good, elders)

    def test_no_elder_of_the_first_version(self):
        for elder in (-40, -1, 0, 1, 39):
            self.assertIs(is_web([(elder,)]), False)
            self.assertIs(is_web([(elder,)] + [()] * 39), False)

    def test_one_bad_version_among_forty(self):
        for version in range(40):
            for bad in ((version,), (version + 1,), (-1,), (0, 0), (1, 0), (0, 1, 2, 3), (-1, 0), (0, version)):
                web = dense_web()
                web[version] = bad
                self.assertIs(is_web(web), False, (version, bad))

    def test_the_last_lesser_one_and_the_first(self):
        web = [()] * 40
        for version in range(1, 40):
            web[version] = (0, version - 1) if version > 1 else (0,)
            self.assertIs(is_web(web), True, version)

    def test_what_is_none(self):
        for web in BAD_WEBS:
            self.assertIs(is_web(web), False, web)

    def test_all_small_ones(self):
        for web in SMALL + GREAT:
            self.assertIs(is_web(web), True, web)

    def test_nothing_is_changed(self):
        for web in ([], [()], list(CROSSED), [(1,), (2,)]):
            check_own(self, is_web, web)


class AboveAndBelow(unittest.TestCase):
    def test_told_ones(self):
        self.assertEqual(above([()], 0), [0])
        self.assertEqual(below([()], 0), [0])
        self.assertEqual(above(CROSSED, 6), [0, 1, 2, 3, 4, 6])
        self.assertEqual(above(CROSSED, 4), [0, 1, 2, 4])
        self.assertEqual(above(CROSSED, 5), [5])
        self.assertEqual(below(CROSSED, 0), [0, 1, 2, 3, 4, 6])
        self.assertEqual(below(CROSSED, 2), [2, 3, 4, 6])
        self.assertEqual(below(CROSSED, 5), [5])
        self.assertEqual(below(CROSSED, 6), [6])

    def test_by_words(self):
        for web in SMALL + GREAT:
            lists = [sorted(set_above(web, version)) for version in range(len(web))]
            for version in range(len(web)):
                self.assertEqual(above(web, version), lists[version])
                self.assertEqual(below(web, version), [low for low, part in enumerate(lists) if version in part])

    def test_above_is_it_itself_and_all_above_its_elders(self):
        for web in GREAT:
            for version in range(40):
                parts = [above(web, elder) for elder in web[version]]
                self.assertEqual(above(web, version), sorted({version}.union(*parts)))

    def test_one_long_line(self):
        web = [()] + [(version,) for version in range(39)]
        for version in range(40):
            self.assertEqual(above(web, version), list(range(version + 1)))
            self.assertEqual(below(web, version), list(range(version, 40)))


class Between(unittest.TestCase):
    def test_told_ones(self):
        self.assertEqual(between(CROSSED, 3, 4), [4])
        self.assertEqual(between(CROSSED, 4, 3), [3])
        self.assertEqual(between(CROSSED, 1, 6), [2, 3, 4, 6])
        self.assertEqual(between(CROSSED, 6, 1), [])
        self.assertEqual(between(CROSSED, 5, 6), [0, 1, 2, 3, 4, 6])
        self.assertEqual(between(CROSSED, 6, 5), [5])

    def test_by_words(self):
        for web in all_webs(4) + GREAT[::6]:
            sets = [set_above(web, version) for version in range(len(web))]
            for one, other in itertools.product(range(len(web)), repeat=2):
                self.assertEqual(between(web, one, other), sorted(sets[other] - sets[one]))

    def test_of_a_version_to_itself(self):
        for version in range(7):
            self.assertEqual(between(CROSSED, version, version), [])


class Ends(unittest.TestCase):
    def test_told_ones(self):
        self.assertEqual(ends([()]), [0])
        self.assertEqual(ends(CROSSED), [5, 6])
        self.assertEqual(ends([()] * 40), list(range(40)))
        self.assertEqual(ends(dense_web()), [39])

    def test_by_words(self):
        for web in SMALL + GREAT:
            lowest = [version for version in range(len(web)) if not any(version in elders for elders in web)]
            self.assertEqual(ends(web), lowest)


class Refused(unittest.TestCase):
    def test_what_is_no_web(self):
        for web in BAD_WEBS:
            for version in (0, -1, 1, 100):
                check_refused(self, BadWeb, above, web, version)
                check_refused(self, BadWeb, below, web, version)
                check_refused(self, BadWeb, between, web, version, 0)
                check_refused(self, BadWeb, between, web, 0, version)
            check_refused(self, BadWeb, ends, web)

    def test_what_is_no_version(self):
        for web in ([()], CROSSED, dense_web()):
            many = len(web)
            for version in (-1, -2, -many, -many - 1, many, many + 1, 1000):
                check_refused(self, NoVersion, above, web, version)
                check_refused(self, NoVersion, below, web, version)
                for good in (0, many - 1, version):
                    check_refused(self, NoVersion, between, web, version, good)
                    check_refused(self, NoVersion, between, web, good, version)

    def test_the_first_and_the_last_are_versions(self):
        for many in (1, 2, 40):
            web = dense_web(many)
            self.assertEqual(above(web, many - 1), list(range(many)))
            self.assertEqual(below(web, 0), list(range(many)))


class Own(unittest.TestCase):
    def test_what_is_told_is_the_askers_own(self):
        for version in range(7):
            check_own(self, above, list(CROSSED), version)
            check_own(self, below, list(CROSSED), version)
            check_own(self, between, list(CROSSED), 1, version)
        check_own(self, ends, list(CROSSED))


if __name__ == "__main__":
    unittest.main()
