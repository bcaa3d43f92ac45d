"""Ways, promises [3.1] and [3.4], and [1] of them."""

import itertools
import unittest

from pasthall.errors import BadWeb, NoVersion
from pasthall.ways import first_way, must_pass, ways
from tests.helpers import BAD_WEBS, all_webs, chances, check_own, check_refused, dense_web, set_above, some_web

CROSSED = [(), (0,), (0,), (1, 2), (1, 2), (), (3, 4)]


def all_ways(web, one, other):
    """All ways from the other up to the one, gone through one by one."""
    if one == other:
        return [[one]]
    return [[other] + way for elder in web[other] for way in all_ways(web, one, elder)]


def diamonds(many):
    """Diamonds one behind the other: 0; 1, 2; 3; 4, 5; 6 .."""
    web = [()]
    while len(web) + 3 <= many:
        top = len(web) - 1
        web.extend([(top,), (top,), (top + 1, top + 2)])
    return web


def passed_by_words(web, one, other):
    """[3.4]: without a version that must be passed no way leads up."""
    if one not in set_above(web, other):
        return []
    return [version for version in range(len(web)) if one not in set_above(web, other, (version,))]


class SmallWebs(unittest.TestCase):
    def test_against_all_ways(self):
        for web in all_webs(5):
            for one, other in itertools.product(range(len(web)), repeat=2):
                found = all_ways(web, one, other)
                self.assertEqual(ways(web, one, other), len(found))
                common = set.intersection(*[set(way) for way in found]) if found else set()
                self.assertEqual(must_pass(web, one, other), sorted(common))
                self.assertEqual(first_way(web, one, other), min(found, default=None))

    def test_against_all_ways_of_some_with_eight_versions(self):
        for chance in chances(36, 150):
            web = some_web(chance, 8)
            for one, other in itertools.product(range(8), repeat=2):
                found = all_ways(web, one, other)
                self.assertEqual(ways(web, one, other), len(found))
                common = set.intersection(*[set(way) for way in found]) if found else set()
                self.assertEqual(must_pass(web, one, other), sorted(common))
                self.assertEqual(first_way(web, one, other), min(found, default=None))


class Told(unittest.TestCase):
    def test_crossed(self):
        self.assertEqual(ways(CROSSED, 0, 6), 4)
        self.assertEqual(must_pass(CROSSED, 0, 6), [0, 6])
        self.assertEqual(first_way(CROSSED, 0, 6), [6, 3, 1, 0])
        self.assertEqual(ways(CROSSED, 1, 6), 2)
        self.assertEqual(must_pass(CROSSED, 1, 6), [1, 6])
        self.assertEqual(first_way(CROSSED, 2, 6), [6, 3, 2])
        self.assertEqual(must_pass(CROSSED, 0, 1), [0, 1])

    def test_a_version_between_that_must_be_passed(self):
        web = [(), (0,), (0,), (1, 2), (3,), (3,), (4, 5)]
        self.assertEqual(must_pass(web, 0, 6), [0, 3, 6])
        self.assertEqual(ways(web, 0, 6), 4)

    def test_the_least_elder_may_lead_nowhere(self):
        web = [(), (), (1,), (0, 2)]
        self.assertEqual(first_way(web, 1, 3), [3, 2, 1])
        self.assertEqual(first_way(web, 0, 3), [3, 0])

    def test_a_short_way_is_not_first_for_being_short(self):
        web = [(), (0,), (1,), (0, 2)]
        self.assertEqual(first_way(web, 0, 3), [3, 0])
        web = [(), (0,), (0,), (1, 2)]
        self.assertEqual(first_way(web, 0, 3), [3, 1, 0])
        web = [(), (), (0,), (1, 2), (2, 3)]
        self.assertEqual(first_way(web, 0, 4), [4, 2, 0])

    def test_of_a_version_to_itself(self):
        for web in (CROSSED, dense_web(), [()]):
            for version in range(len(web)):
                self.assertEqual(ways(web, version, version), 1)
                self.assertEqual(must_pass(web, version, version), [version])
                self.assertEqual(first_way(web, version, version), [version])

    def test_where_no_way_leads(self):
        for one, other in ((6, 0), (5, 6), (6, 5), (3, 4), (4, 3), (1, 2), (3, 1), (0, 5)):
            self.assertEqual(ways(CROSSED, one, other), 0)
            self.assertEqual(must_pass(CROSSED, one, other), [])
            self.assertIsNone(first_way(CROSSED, one, other))


class GreatWebs(unittest.TestCase):
    def test_one_long_line(self):
        web = [()] + [(version,) for version in range(39)]
        self.assertEqual(ways(web, 0, 39), 1)
        self.assertEqual(must_pass(web, 0, 39), list(range(40)))
        self.assertEqual(must_pass(web, 5, 30), list(range(5, 31)))
        self.assertEqual(first_way(web, 5, 30), list(range(30, 4, -1)))

    def test_very_many_ways(self):
        web = dense_web()
        counts = [1, 1, 2]
        while len(counts) < 40:
            counts.append(sum(counts[-3:]))
        for version in range(40):
            self.assertEqual(ways(web, 0, version), counts[version])
        self.assertEqual(must_pass(web, 0, 39), [0, 39])
        self.assertEqual(first_way(web, 0, 39), list(range(39, -1, -3)))
        self.assertEqual(first_way(web, 2, 39), list(range(39, 2, -3)) + [2])

    def test_diamonds(self):
        web = diamonds(40)
        self.assertEqual(len(web), 40)
        self.assertEqual(ways(web, 0, 39), 2 ** 13)
        self.assertEqual(must_pass(web, 0, 39), list(range(0, 40, 3)))
        self.assertEqual(must_pass(web, 1, 38), [1] + list(range(3, 37, 3)) + [38])
        first = sorted(list(range(0, 40, 3)) + list(range(1, 40, 3)), reverse=True)
        self.assertEqual(first_way(web, 0, 39), first)

    def test_by_chance(self):
        for chance in chances(37, 60):
            web = some_web(chance)
            for one, other in [sorted(chance.sample(range(40), 2)) for turn in range(12)]:
                sets = [set_above(web, version) for version in range(40)]
                self.assertEqual(must_pass(web, one, other), passed_by_words(web, one, other))
                way = first_way(web, one, other)
                if one not in sets[other]:
                    self.assertEqual((ways(web, one, other), way), (0, None))
                    continue
                self.assertGreater(ways(web, one, other), 0)
                self.assertEqual((way[0], way[-1]), (other, one))
                for here, later in zip(way, way[1:]):
                    self.assertEqual(later, min(elder for elder in web[here] if one in sets[elder]))

    def test_as_many_ways_as_the_elders_have(self):
        for web in [some_web(chance) for chance in chances(38, 20)] + [dense_web()]:
            for one, other in itertools.product(range(0, 40, 7), range(40)):
                many = sum(ways(web, one, elder) for elder in web[other]) if one != other else 1
                self.assertEqual(ways(web, one, other), many)


class Refused(unittest.TestCase):
    def test_what_is_no_web(self):
        for call in (ways, must_pass, first_way):
            for web in BAD_WEBS:
                for one, other in ((0, 0), (-1, 0), (0, 100), (100, -1)):
                    check_refused(self, BadWeb, call, web, one, other)

    def test_what_is_no_version(self):
        for call in (ways, must_pass, first_way):
            for web in ([()], CROSSED, dense_web()):
                many = len(web)
                for version in (-1, -many, -many - 1, many, many + 1, 1000):
                    for good in (0, many - 1, version):
                        check_refused(self, NoVersion, call, web, version, good)
                        check_refused(self, NoVersion, call, web, good, version)


class Own(unittest.TestCase):
    def test_what_is_told_is_the_askers_own(self):
        for call in (ways, must_pass, first_way):
            for one, other in ((0, 6), (6, 0), (3, 3), (1, 6)):
                check_own(self, call, list(CROSSED), one, other)


if __name__ == "__main__":
    unittest.main()
