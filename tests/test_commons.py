"""The latest common versions and their papers, promises [3.2] and [3.3], and [1] of them."""

import itertools
import unittest

from pasthall.commons import common_holds, common_paper, latest_common
from pasthall.errors import BadWeb, NoVersion
from tests.helpers import (BAD_WEBS, all_webs, chances, check_own, check_refused, common_by_words, dense_web,
                           set_above, some_web)

# Two lines of versions that cross, and one version apart.
CROSSED = [(), (0,), (0,), (1, 2), (1, 2), (), (3, 4)]
# Three versions, each with the same three elders.
TRIPLE = [(), (), (), (0, 1, 2), (0, 1, 2), (0, 1, 2)]


def lists_of(numbers, most):
    """All lists of numbers, from one number to so many, also twice the same."""
    return [list(some) for many in range(1, most + 1) for some in itertools.product(numbers, repeat=many)]


def subsets(numbers):
    """All lists without a number twice, in the order of the numbers."""
    return [list(part) for many in range(len(numbers) + 1) for part in itertools.combinations(numbers, many)]


def paper_by_words(web, some):
    """[3.3]: the latest common ones, and for each version all that is above it."""
    return (common_by_words(web, some), [sorted(set_above(web, version)) for version in some])


def holds_by_words(web, some, paper):
    """[3.3] word by word."""
    latest, sets = paper
    if len(sets) != len(some):
        return False
    for version, part in zip(some, sets):
        if part != sorted(set(part)) or any(member not in range(len(web)) for member in part):
            return False
        if version not in part or any(elder not in part for member in part for elder in web[member]):
            return False
        if any(member != version and not any(member in web[low] for low in part) for member in part):
            return False
    common = [version for version in range(len(web)) if all(version in part for part in sets)]
    return latest == [version for version in common if not any(version in web[low] for low in common)]


class LatestCommon(unittest.TestCase):
    def test_none(self):
        self.assertEqual(latest_common([(), ()], [0, 1]), [])
        self.assertEqual(latest_common(CROSSED, [5, 6]), [])
        self.assertEqual(latest_common(CROSSED, [3, 4, 5]), [])
        self.assertEqual(latest_common([()] * 40, list(range(40))), [])

    def test_one(self):
        self.assertEqual(latest_common([()], [0]), [0])
        self.assertEqual(latest_common(CROSSED, [1, 2]), [0])
        self.assertEqual(latest_common(CROSSED, [6, 3]), [3])
        self.assertEqual(latest_common(CROSSED, [1, 6]), [1])
        self.assertEqual(latest_common(CROSSED, [1, 2, 6]), [0])

    def test_several(self):
        self.assertEqual(latest_common(CROSSED, [3, 4]), [1, 2])
        self.assertEqual(latest_common(CROSSED, [4, 3, 6]), [1, 2])
        self.assertEqual(latest_common(TRIPLE, [5, 3]), [0, 1, 2])
        self.assertEqual(latest_common(TRIPLE, [3, 4, 5]), [0, 1, 2])

    def test_more_than_three(self):
        web = [()] * 6 + [(0, 1, 2), (3, 4, 5), (0, 2, 4), (1, 3, 5), (6, 7), (8, 9)]
        self.assertEqual(latest_common(web, [10, 11]), [0, 1, 2, 3, 4, 5])

    def test_the_same_version_twice(self):
        for version in range(7):
            for many in (1, 2, 3, 50):
                self.assertEqual(latest_common(CROSSED, [version] * many), [version])
        self.assertEqual(latest_common(CROSSED, [3, 4, 3]), [1, 2])

    def test_by_words(self):
        for web in all_webs(4):
            for some in lists_of(range(len(web)), 3):
                self.assertEqual(latest_common(web, some), common_by_words(web, some), (web, some))

    def test_by_words_at_forty_versions(self):
        for chance in chances(32, 150):
            web = some_web(chance)
            for many in (1, 2, 2, 2, 3, 4, 40):
                some = [chance.randrange(40) for turn in range(many)]
                self.assertEqual(latest_common(web, some), common_by_words(web, some), (web, some))


class CommonPaper(unittest.TestCase):
    def test_told_ones(self):
        self.assertEqual(common_paper([()], [0]), ([0], [[0]]))
        self.assertEqual(common_paper(CROSSED, [4, 3]), ([1, 2], [[0, 1, 2, 4], [0, 1, 2, 3]]))
        self.assertEqual(common_paper(CROSSED, [5, 1, 5]), ([], [[5], [0, 1], [5]]))

    def test_by_words(self):
        for web in all_webs(4):
            for some in lists_of(range(len(web)), 2):
                paper = common_paper(web, some)
                self.assertEqual(paper, paper_by_words(web, some))
                self.assertIs(type(paper), tuple)
                self.assertIs(common_holds(web, some, paper), True)

    def test_by_words_at_forty_versions(self):
        for chance in chances(33, 100):
            web = some_web(chance)
            for many in (1, 2, 3, 40):
                some = [chance.randrange(40) for turn in range(many)]
                paper = common_paper(web, some)
                self.assertEqual(paper, paper_by_words(web, some))
                self.assertIs(common_holds(web, some, paper), True)


class CommonHolds(unittest.TestCase):
    def check_broken(self, web, some, latest, sets):
        self.assertIs(holds_by_words(web, some, (latest, sets)), False)
        self.assertIs(common_holds(web, some, (latest, sets)), False, (web, some, latest, sets))

    def test_a_list_without_its_version(self):
        self.check_broken(CROSSED, [3, 4], [1, 2], [[0, 1, 2], [0, 1, 2, 4]])
        self.check_broken(CROSSED, [3, 4], [1, 2], [[0, 1, 2, 3], [0, 1, 2]])
        self.check_broken([()], [0], [], [[]])

    def test_a_list_without_an_elder(self):
        self.check_broken(CROSSED, [3], [3], [[1, 2, 3]])
        self.check_broken(CROSSED, [3], [3], [[0, 2, 3]])
        self.check_broken(CROSSED, [6], [6], [[0, 1, 2, 3, 6]])
        self.check_broken(CROSSED, [3], [3], [[3]])

    def test_a_list_with_one_that_is_no_elder_of_one_in_it(self):
        self.check_broken(CROSSED, [3], [3], [[0, 1, 2, 3, 5]])
        self.check_broken(CROSSED, [3], [3, 4], [[0, 1, 2, 3, 4]])
        self.check_broken(CROSSED, [1], [1, 2], [[0, 1, 2]])
        self.check_broken(CROSSED, [1], [6], [[0, 1, 2, 3, 4, 6]])

    def test_lists_too_many_or_too_few(self):
        good = [[0, 1, 2, 3], [0, 1, 2, 4]]
        self.assertIs(common_holds(CROSSED, [3, 4], ([1, 2], good)), True)
        self.check_broken(CROSSED, [3, 4], [1, 2], good + [[0, 1, 2, 4]])
        self.check_broken(CROSSED, [3, 4], [1, 2], good + [[0, 1, 2]])
        self.check_broken(CROSSED, [3, 4], [3], good[:1])
        self.check_broken(CROSSED, [3, 4], [1, 2], [])
        self.check_broken(CROSSED, [3, 4], [], [])
        self.check_broken(CROSSED, [3, 3], [3], good[:1])
        self.check_broken(CROSSED, [3], [3], good[:1] * 2)

    def test_lists_in_another_order(self):
        self.check_broken(CROSSED, [3, 4], [1, 2], [[0, 1, 2, 4], [0, 1, 2, 3]])
        self.check_broken(CROSSED, [6, 3], [3], [[0, 1, 2, 3], [0, 1, 2, 3, 4, 6]])

    def test_members_in_another_order_or_twice(self):
        self.check_broken(CROSSED, [3], [3], [[0, 2, 1, 3]])
        self.check_broken(CROSSED, [3], [3], [[3, 2, 1, 0]])
        self.check_broken(CROSSED, [3], [3], [[0, 1, 1, 2, 3]])
        self.check_broken(CROSSED, [3], [3], [[0, 1, 2, 3, 3]])

    def test_latest_ones_too_many_or_too_few(self):
        good = [[0, 1, 2, 3], [0, 1, 2, 4]]
        for latest in ([], [1], [2], [0, 1, 2], [0], [1, 2, 3], [1, 2, 5], [1, 3], [3, 4]):
            self.check_broken(CROSSED, [3, 4], latest, good)

    def test_latest_ones_twice_or_exchanged(self):
        good = [[0, 1, 2, 3], [0, 1, 2, 4]]
        for latest in ([2, 1], [1, 1, 2], [1, 2, 2], [1, 2, 1], [1, 1], [1, 2, 1, 2]):
            self.check_broken(CROSSED, [3, 4], latest, good)

    def test_numbers_of_no_version(self):
        for number in (-1, -2, -7, -8, 7, 8, 100):
            self.check_broken(CROSSED, [3], sorted([number, 3]), [[0, 1, 2, 3]])
            self.check_broken(CROSSED, [3], [number], [[0, 1, 2, 3]])
            self.check_broken(CROSSED, [3], [3], [sorted([0, 1, 2, 3, number])])
            self.check_broken(CROSSED, [3], sorted([number, 3]), [sorted([0, 1, 2, 3, number])])
            self.check_broken(CROSSED, [3], [3], [[number]])
            self.check_broken(CROSSED, [6], [6], [sorted([0, 1, 2, 4, 6, number])])

    def test_all_papers_of_one_version(self):
        for web in all_webs(3):
            numbers = range(-1, len(web) + 1)
            for version in range(len(web)):
                held = [(latest, [part]) for latest in subsets(numbers) for part in subsets(numbers)
                        if common_holds(web, [version], (latest, [part]))]
                self.assertEqual(held, [paper_by_words(web, [version])])

    def test_all_papers_of_two_versions(self):
        for web in all_webs(3):
            parts = subsets(range(len(web)))
            for some in itertools.product(range(len(web)), repeat=2):
                for latest, first, second in itertools.product(parts, repeat=3):
                    paper = (latest, [first, second])
                    told = common_holds(web, list(some), paper)
                    self.assertIs(told, holds_by_words(web, some, paper), (web, some, paper))

    def spoilt(self, chance, numbers):
        """A list of numbers changed by chance."""
        numbers = list(numbers)
        turn = chance.randrange(4)
        if turn == 0 and numbers:
            numbers.pop(chance.randrange(len(numbers)))
        elif turn == 1:
            numbers = sorted(numbers + [chance.randint(-1, 40)])
        elif turn == 2 and numbers:
            numbers.append(chance.choice(numbers))
        else:
            numbers.insert(chance.randint(0, len(numbers)), chance.randrange(40))
        return numbers

    def test_papers_changed_by_chance_at_forty_versions(self):
        for chance in chances(34, 600):
            web = some_web(chance)
            some = [chance.randrange(40) for turn in range(chance.randint(1, 4))]
            latest, sets = paper_by_words(web, some)
            if chance.randrange(2):
                latest = self.spoilt(chance, latest)
            else:
                turn = chance.randrange(len(sets))
                sets[turn] = self.spoilt(chance, sets[turn])
            self.check_broken(web, some, latest, sets)

    def test_a_closed_list_of_another_version(self):
        for chance in chances(35, 300):
            web = some_web(chance)
            version, other = chance.sample(range(40), 2)
            part = sorted(set_above(web, version) | set_above(web, other))
            told = common_holds(web, [version], ([version], [part]))
            self.assertIs(told, other in set_above(web, version))


class Refused(unittest.TestCase):
    calls = ((latest_common, ()), (common_paper, ()), (common_holds, (([0], [[0]]),)), (common_holds, (([], []),)))

    def test_what_is_no_web(self):
        for call, paper in self.calls:
            for web in BAD_WEBS:
                for some in ([0], [], [-1], [0, 100]):
                    check_refused(self, BadWeb, call, web, some, *paper)

    def test_no_versions_at_all(self):
        for call, paper in self.calls:
            for web in ([()], CROSSED, dense_web()):
                check_refused(self, NoVersion, call, web, [], *paper)

    def test_what_is_no_version(self):
        for call, paper in self.calls:
            for web in ([()], CROSSED, dense_web()):
                many = len(web)
                for version in (-1, -many, -many - 1, many, many + 1, 1000):
                    for some in ([version], [0, version], [version, 0], [0, many - 1, version, 0]):
                        check_refused(self, NoVersion, call, web, some, *paper)


class Own(unittest.TestCase):
    def test_what_is_told_is_the_askers_own(self):
        for some in ([3, 4], [3, 3], [6, 6, 6], [5, 0], [1]):
            check_own(self, latest_common, list(CROSSED), list(some))
            check_own(self, common_paper, list(CROSSED), list(some))
            check_own(self, common_holds, list(CROSSED), list(some), paper_by_words(CROSSED, some))


if __name__ == "__main__":
    unittest.main()
