"""Suspects, plans and the fewest askings, promises [5.1] to [5.5], and [1] of them."""

import itertools
import random
import unittest

from pasthall.asking import fewest, led, length, plan, plan_holds, suspects
from pasthall.errors import BadWeb, NoAsking, NoVersion
from tests.helpers import (BAD_WEBS, NO_KNOWN, all_webs, chances, check_own, check_refused, dense_web,
                           fewest_by_words, line_web, set_above, some_known, some_web, suspects_by_words)

CROSSED = [(), (0,), (0,), (1, 2), (1, 2), (), (3, 4)]
# Three versions apart and one made of all of them; then one made of two, which is no suspect by the first four.
THREE = [(), (), (), (0, 1, 2)]
THREE_AND_A_PAIR = THREE + [(0, 1)]
# Seven versions apart that come together by threes: all ten are suspects, and no asking parts them evenly.
APART = [()] * 7 + [(0, 1, 2), (3, 4, 5), (6, 7, 8)]


def all_plans(web, most):
    """All plans of a web's versions with at most so many askings one behind the other."""
    plans = [("found", version) for version in range(len(web))]
    if most > 0:
        shorter = all_plans(web, most - 1)
        plans.extend(("ask", version, good, bad) for version in range(len(web))
                     for good, bad in itertools.product(shorter, repeat=2))
    return plans


def answers_of(web, told, first_bad):
    """The answers that come in a plan when a version is the first bad one, and what the plan ends with."""
    answers = []
    while told[0] == "ask":
        answers.append(first_bad in set_above(web, told[1]))
        told = told[3] if answers[-1] else told[2]
    return answers, told


def versions_in(told):
    """All versions of a plan, asked and found, by the ways to them."""
    return [told[1]] + [version for later in told[2:] for version in versions_in(later)]


def holds_by_words(web, bad, goods, told):
    """[5.4] word by word."""
    found = suspects_by_words(web, bad, goods)
    if not found or any(version not in range(len(web)) for version in versions_in(told)):
        return False
    return all(answers_of(web, told, suspect)[1] == ("found", suspect) for suspect in found)


def length_by_words(told):
    return 0 if told[0] == "found" else 1 + max(length_by_words(told[2]), length_by_words(told[3]))


def some_plan(chance, web, askings, some, slack):
    """A plan by chance that holds for some suspects, mostly longer than need be; by `slack` also with idle askings."""
    if len(some) == 1 and (askings == 0 or chance.random() > slack):
        return ("found", some[0])
    while True:
        version = chance.randrange(len(web)) if chance.random() < 0.5 else chance.choice(some)
        bad = [suspect for suspect in some if suspect in set_above(web, version)]
        good = [suspect for suspect in some if suspect not in bad]
        if (good and bad) or (askings > len(some) and chance.random() < slack):
            parts = [some_plan(chance, web, askings - 1, part, slack) if part else ("found", chance.randrange(len(web)))
                     for part in (good, bad)]
            return ("ask", version, parts[0], parts[1])


def spoilt_plan(chance, told, numbers):
    """A plan with one part of it changed: a version, the two ways on, or a whole part."""
    if told[0] == "ask" and chance.random() < 0.7:
        turn = chance.choice((2, 3))
        return told[:turn] + (spoilt_plan(chance, told[turn], numbers),) + told[turn + 1:]
    if told[0] == "ask" and chance.random() < 0.5:
        return ("ask", told[1], told[3], told[2])
    return (told[0], chance.choice(numbers)) + told[2:]


def full_plan(askings, version=0):
    """A plan in which each way is as long as all others."""
    if askings == 0:
        return ("found", version)
    part = full_plan(askings - 1, version)
    return ("ask", version, part, part)


def thin_plan(askings, turn, end=("found", 0)):
    """A plan that is long by one way alone: behind good answers (2) or behind bad ones (3)."""
    told = end
    for number in range(askings):
        told = ("ask", number, told, ("found", 1)) if turn == 2 else ("ask", number, ("found", 1), told)
    return told


class Suspects(unittest.TestCase):
    def test_without_good_ones(self):
        self.assertEqual(suspects([()], 0, []), [0])
        self.assertEqual(suspects(CROSSED, 6, []), [0, 1, 2, 3, 4, 6])
        self.assertEqual(suspects(CROSSED, 5, []), [5])
        self.assertEqual(suspects(dense_web(), 39, []), list(range(40)))

    def test_with_good_ones(self):
        self.assertEqual(suspects(CROSSED, 6, [1]), [2, 3, 4, 6])
        self.assertEqual(suspects(CROSSED, 6, [3]), [4, 6])
        self.assertEqual(suspects(CROSSED, 6, [1, 2]), [3, 4, 6])
        self.assertEqual(suspects(CROSSED, 6, [2, 1, 5, 2]), [3, 4, 6])
        self.assertEqual(suspects(CROSSED, 6, [4, 3]), [6])
        self.assertEqual(suspects(CROSSED, 6, [5]), [0, 1, 2, 3, 4, 6])
        self.assertEqual(suspects(CROSSED, 3, [4]), [3])
        self.assertEqual(suspects(line_web(40), 39, [29]), list(range(30, 40)))

    def test_none_left(self):
        self.assertEqual(suspects([()], 0, [0]), [])
        self.assertEqual(suspects(CROSSED, 3, [6]), [])
        self.assertEqual(suspects(CROSSED, 3, [3]), [])
        self.assertEqual(suspects(CROSSED, 0, [5, 2]), [])

    def test_by_words_at_all_small_webs(self):
        for web in all_webs(4):
            many = len(web)
            for bad, turns in itertools.product(range(many), range(3)):
                for goods in itertools.product(range(many), repeat=turns):
                    told = suspects(web, bad, list(goods))
                    self.assertEqual(told, suspects_by_words(web, bad, goods), (web, bad, goods))
                    self.assertIs(type(told), list)

    def test_by_words_at_forty_versions(self):
        for chance in chances(70, 100):
            web = some_web(chance)
            bad, goods = some_known(chance, web)
            self.assertEqual(suspects(web, bad, goods), suspects_by_words(web, bad, goods))

    def test_good_ones_in_any_order_and_twice(self):
        for chance in chances(71, 100):
            web = some_web(chance)
            bad, goods = some_known(chance, web)
            other = goods + goods[:2]
            chance.shuffle(other)
            self.assertEqual(suspects(web, bad, other), suspects(web, bad, goods))

    def test_what_an_answer_leaves(self):
        for chance in chances(72, 60):
            web = some_web(chance, chance.choice((6, 40)))
            bad, goods = some_known(chance, web)
            found = suspects(web, bad, goods)
            for version in range(len(web)):
                higher = set_above(web, version)
                self.assertEqual(suspects(web, bad, goods + [version]),
                                 [suspect for suspect in found if suspect not in higher])
                left = [suspect for suspect in found if suspect in higher]
                told = suspects(web, version, goods)
                self.assertEqual([suspect for suspect in found if suspect in told], left)
                if version in set_above(web, bad):
                    self.assertEqual(told, left)

    def test_refused(self):
        for web in BAD_WEBS:
            for bad, goods in ((0, []),) + NO_KNOWN:
                check_refused(self, BadWeb, suspects, web, bad, goods)
        for web in ([()], CROSSED, dense_web()):
            many = len(web)
            for version in (-1, -many, -many - 1, many, many + 1, 1000):
                for bad, goods in ((version, []), (version, [0]), (0, [version]), (0, [0, version]), (0, [version, 0]),
                                   (many - 1, [0, many - 1, version])):
                    check_refused(self, NoVersion, suspects, web, bad, goods)


class Fewest(unittest.TestCase):
    def check_plan(self, web, bad, goods, many):
        """The fewest askings and the plan told are as they must be."""
        self.assertEqual(fewest(web, bad, goods), many, (web, bad, goods))
        told = plan(web, bad, goods)
        self.assertEqual(length_by_words(told), many)
        self.assertEqual(length(told), many)
        self.assertTrue(holds_by_words(web, bad, goods, told), (web, bad, goods, told))
        self.assertIs(plan_holds(web, bad, goods, told), True)

    def test_against_all_plans_gone_through(self):
        for web in all_webs(3):
            plans = all_plans(web, 2)
            for bad, goods in itertools.product(range(len(web)), ([], [0], [len(web) - 1])):
                if suspects_by_words(web, bad, goods):
                    least = min(length_by_words(told) for told in plans if holds_by_words(web, bad, goods, told))
                    self.check_plan(web, bad, goods, least)

    def test_against_all_plans_of_two_askings_at_four_versions(self):
        for web in (THREE, [(), (), (), (0, 1)], [(), (), (0, 1), (2,)], [(), (0,), (0,), (1, 2)], line_web(4)):
            self.assertEqual(len(suspects(web, 3, [])), len(set_above(web, 3)))
            held = [told for told in all_plans(web, 2) if plan_holds(web, 3, [], told)]
            if held:
                self.check_plan(web, 3, [], min(length_by_words(told) for told in held))
            else:
                self.check_plan(web, 3, [], 3)

    def test_against_all_askings_at_all_small_webs(self):
        for web in all_webs(5):
            for bad, goods in ((len(web) - 1, []), (len(web) - 1, [0]), (len(web) - 2, [])):
                if bad >= 0 and suspects_by_words(web, bad, goods):
                    many = fewest_by_words(web, suspects_by_words(web, bad, goods))
                    self.assertEqual(fewest(web, bad, goods), many, (web, bad, goods))
                    self.assertEqual(length_by_words(plan(web, bad, goods)), many)

    def test_against_all_askings_by_chance(self):
        seen = {}
        for chance in chances(73, 500):
            web = some_web(chance, chance.choice((7, 10, 14, 40)))
            bad, goods = some_known(chance, web)
            found = suspects_by_words(web, bad, goods)
            if 1 <= len(found) <= 10:
                many = fewest_by_words(web, found)
                self.check_plan(web, bad, goods, many)
                seen[many] = seen.get(many, 0) + 1
        self.assertGreaterEqual(set(seen), {0, 1, 2, 3, 4})

    def test_one_suspect(self):
        for web, bad, goods, found in (([()], 0, [], 0), (CROSSED, 5, [6], 5), (CROSSED, 6, [3, 4], 6),
                                       (line_web(40), 39, [38], 39)):
            self.check_plan(web, bad, goods, 0)
            self.assertEqual(plan(web, bad, goods), ("found", found))

    def test_two_suspects(self):
        self.check_plan(line_web(2), 1, [], 1)
        self.assertEqual(plan(line_web(2), 1, []), ("ask", 0, ("found", 1), ("found", 0)))

    def test_one_behind_the_other(self):
        for many, askings in zip(range(1, 11), (0, 1, 2, 2, 3, 3, 3, 3, 4, 4)):
            self.check_plan(line_web(many), many - 1, [], askings)
            self.check_plan(line_web(40), many - 1, [], askings)
            self.check_plan(line_web(40), 39, [39 - many], askings)
            self.check_plan(line_web(40), 20, [20 - many, 3], askings)

    def test_versions_that_are_no_suspects_may_be_asked(self):
        self.check_plan(THREE, 3, [], 3)
        self.check_plan(THREE_AND_A_PAIR, 3, [], 2)
        self.assertEqual(suspects(THREE_AND_A_PAIR, 3, []), [0, 1, 2, 3])
        self.assertEqual(plan(THREE_AND_A_PAIR, 3, [])[1], 4)

    def test_more_askings_than_even_parting_needs(self):
        self.assertEqual(len(suspects(APART, 9, [])), 10)
        self.check_plan(APART, 9, [], fewest_by_words(APART, list(range(10))))
        self.assertGreater(fewest(APART, 9, []), 4)

    def test_ten_suspects_and_eleven(self):
        for web in (line_web(40), dense_web()):
            for bad in range(10, 40):
                self.assertEqual(len(suspects(web, bad, [bad - 10])), 10)
                self.check_plan(web, bad, [bad - 10], 4)
        for call in (fewest, plan):
            check_refused(self, NoAsking, call, line_web(11), 10, [])
            check_refused(self, NoAsking, call, line_web(40), 39, [28])
            check_refused(self, NoAsking, call, dense_web(), 39, [28])
            check_refused(self, NoAsking, call, dense_web(), 39, [])

    def test_great_webs(self):
        # Ten suspects that each asking parts unevenly, and thirty versions more, made of each three of them.
        triples = list(itertools.combinations(range(7), 3))[:30]
        web = APART + [triple for triple in triples if triple not in APART]
        self.assertGreater(len(web), 36)
        self.check_plan(web, 9, [], fewest_by_words(web, list(range(10))))

    def test_with_one_more_good_version_they_are_no_more(self):
        for chance in chances(74, 60):
            web = some_web(chance, chance.choice((10, 40)))
            bad, goods = some_known(chance, web)
            if 1 <= len(suspects(web, bad, goods)) <= 10:
                for version in range(len(web)):
                    if suspects(web, bad, goods + [version]):
                        self.assertLessEqual(fewest(web, bad, goods + [version]), fewest(web, bad, goods))

    def test_refused(self):
        for call in (fewest, plan):
            for web in BAD_WEBS:
                for bad, goods in ((0, []), (0, [0])) + NO_KNOWN:
                    check_refused(self, BadWeb, call, web, bad, goods)
            # None of these has few suspects: NoVersion comes ahead.
            for web in (line_web(11), dense_web(), [()]):
                for bad, goods in NO_KNOWN + ((len(web), []), (len(web) - 1, [len(web)]), (-len(web), [])):
                    check_refused(self, NoVersion, call, web, bad, goods)
            for web, bad, goods in (([()], 0, [0]), (CROSSED, 3, [6]), (CROSSED, 0, [5, 2]), (line_web(11), 10, [])):
                check_refused(self, NoAsking, call, web, bad, goods)


class PlanHolds(unittest.TestCase):
    def check(self, web, bad, goods, told, expected):
        self.assertIs(holds_by_words(web, bad, goods, told), expected, (web, bad, goods, told))
        self.assertIs(plan_holds(web, bad, goods, told), expected, (web, bad, goods, told))

    def test_all_plans_of_small_webs(self):
        for web in all_webs(3):
            plans = all_plans(web, 2)
            for bad, goods in ((len(web) - 1, []), (len(web) - 1, [0])):
                for told in plans:
                    self.assertIs(plan_holds(web, bad, goods, told), holds_by_words(web, bad, goods, told))

    def test_plans_that_hold_and_are_not_told(self):
        web = line_web(3)
        slow = ("ask", 1, ("found", 2), ("ask", 0, ("found", 1), ("found", 0)))
        other = ("ask", 0, ("ask", 1, ("found", 2), ("found", 1)), ("found", 0))
        for told in (slow, other, ("ask", 2, ("found", 0), slow), ("ask", 2, ("ask", 1, slow, other), other)):
            self.check(web, 2, [], told, True)
        self.check(web, 2, [0], slow, True)
        self.check(web, 1, [0], ("found", 1), True)

    def test_spoilt_ones(self):
        web = line_web(3)
        found = [("found", version) for version in range(3)]
        self.check(web, 2, [], ("ask", 1, found[2], ("ask", 0, found[1], found[0])), True)
        self.check(web, 2, [], ("ask", 1, found[1], ("ask", 0, found[1], found[0])), False)
        self.check(web, 2, [], ("ask", 1, found[2], ("ask", 0, found[0], found[0])), False)
        self.check(web, 2, [], ("ask", 1, found[2], ("ask", 0, found[0], found[1])), False)
        self.check(web, 2, [], ("ask", 1, ("ask", 0, found[1], found[0]), found[2]), False)
        self.check(web, 2, [], ("ask", 2, found[2], ("ask", 0, found[1], found[0])), False)
        self.check(web, 2, [], ("ask", 1, found[2], found[0]), False)
        self.check(web, 2, [], found[2], False)

    def test_parts_that_no_answers_lead_to(self):
        web = line_web(3)
        good = ("ask", 1, ("found", 2), ("ask", 0, ("found", 1), ("found", 0)))
        for idle in (("found", 0), ("found", 2), ("ask", 1, ("found", 0), ("found", 0)), good, full_plan(5)):
            self.check(web, 2, [], ("ask", 2, idle, good), True)
            self.check(web, 2, [], ("ask", 2, good, idle), idle == good)
            self.check(web, 1, [0], ("ask", 0, ("found", 1), idle), True)

    def test_a_version_that_the_web_has_not(self):
        web = line_web(3)
        good = ("ask", 1, ("found", 2), ("ask", 0, ("found", 1), ("found", 0)))
        for number in (-1, -2, -3, -4, 3, 4, 100):
            self.check(web, 2, [], ("found", number), False)
            self.check(web, 2, [], ("ask", number, good, good), False)
            # Nor where no answers lead.
            self.check(web, 2, [], ("ask", 2, ("found", number), good), False)
            self.check(web, 2, [], ("ask", 2, ("ask", number, ("found", 0), ("found", 0)), good), False)
            self.check(web, 2, [1], ("ask", 2, ("found", number), ("found", 2)), False)
            self.check(web, 2, [], ("ask", 1, ("found", number), ("ask", 0, ("found", 1), ("found", 0))), False)
        # As a place counted from the end these would be the versions asked and found.
        self.check(web, 2, [], ("ask", -2, ("found", 2), ("ask", -3, ("found", 1), ("found", 0))), False)

    def test_where_there_are_no_suspects(self):
        for told in all_plans(line_web(2), 2):
            self.check(line_web(2), 0, [1], told, False)
            self.check(line_web(2), 1, [1], told, False)

    def test_by_chance(self):
        seen = {True: 0, False: 0}
        for chance in chances(75, 400):
            web = some_web(chance, chance.choice((5, 10, 40)))
            bad, goods = some_known(chance, web)
            found = suspects_by_words(web, bad, goods)
            if not 1 <= len(found) <= 8:
                continue
            told = some_plan(chance, web, 12, found, chance.choice((0, 0.1, 0.3)))
            self.check(web, bad, goods, told, True)
            for turn in range(8):
                spoilt = spoilt_plan(chance, told, list(range(-1, len(web) + 1)))
                expected = holds_by_words(web, bad, goods, spoilt)
                self.assertIs(plan_holds(web, bad, goods, spoilt), expected, (web, bad, goods, spoilt))
                seen[expected] += 1
        self.assertGreater(min(seen.values()), 50)

    def test_more_suspects_than_ten(self):
        chance = random.Random(76)
        for web in (line_web(40), dense_web(), line_web(13)):
            bad = len(web) - 1
            found = suspects(web, bad, [])
            told = self.halving(web, found)
            self.assertLessEqual(length_by_words(told), 12)
            self.check(web, bad, [], told, True)
            for turn in range(20):
                spoilt = spoilt_plan(chance, told, list(range(len(web))))
                self.assertIs(plan_holds(web, bad, [], spoilt), holds_by_words(web, bad, [], spoilt))

    def halving(self, web, some):
        """A plan that parts some suspects as evenly as one asking can, then each part so."""
        if len(some) == 1:
            return ("found", some[0])
        counts = [len(set_above(web, version) & set(some)) for version in range(len(web))]
        version = min(range(len(web)), key=lambda number: abs(2 * counts[number] - len(some)))
        bad = [suspect for suspect in some if suspect in set_above(web, version)]
        good = [suspect for suspect in some if suspect not in bad]
        return ("ask", version, self.halving(web, good), self.halving(web, bad))

    def test_long_plans(self):
        web = line_web(2)
        right = ("ask", 0, ("found", 1), ("found", 0))
        told = right
        for turn in range(11):
            told = ("ask", 1, full_plan(turn, 1), told)
        self.assertEqual(length_by_words(told), 12)
        self.check(web, 1, [], told, True)
        self.check(web, 1, [], full_plan(12), False)
        self.check(web, 0, [], full_plan(12), True)
        self.check([()], 0, [], full_plan(12), True)

    def test_refused(self):
        for told in (("found", 0), ("found", -1), ("ask", 100, ("found", 0), ("found", 0))):
            for web in BAD_WEBS:
                for bad, goods in ((0, []),) + NO_KNOWN:
                    check_refused(self, BadWeb, plan_holds, web, bad, goods, told)
            for web in ([()], CROSSED, dense_web()):
                for bad, goods in NO_KNOWN + ((len(web), []), (0, [0, len(web)]), (-len(web), [0])):
                    check_refused(self, NoVersion, plan_holds, web, bad, goods, told)


class Led(unittest.TestCase):
    told = ("ask", 1, ("found", 2), ("ask", 0, ("found", 1), ("found", 0)))

    def test_no_answers(self):
        self.assertEqual(led(self.told, []), self.told)
        self.assertEqual(led(("found", 3), []), ("found", 3))

    def test_some_answers(self):
        self.assertEqual(led(self.told, [True]), ("ask", 0, ("found", 1), ("found", 0)))

    def test_all_answers(self):
        self.assertEqual(led(self.told, [False]), ("found", 2))
        self.assertEqual(led(self.told, [True, False]), ("found", 1))
        self.assertEqual(led(self.told, [True, True]), ("found", 0))

    def test_answers_behind_the_end(self):
        for answers in ([False, False], [False, True], [True, True, True], [True, False, False],
                        [False] * 12, [True] * 30):
            check_refused(self, NoAsking, led, self.told, answers)
        for answers in ([True], [False], [True, False]):
            check_refused(self, NoAsking, led, ("found", 0), answers)

    def test_numbers_of_no_web_are_led_through(self):
        self.assertEqual(led(("ask", -7, ("found", 100), ("found", -1)), [True]), ("found", -1))

    def test_the_answers_of_each_suspect_lead_to_it(self):
        for chance in chances(77, 100):
            web = some_web(chance, 10)
            bad, goods = some_known(chance, web)
            for suspect in suspects(web, bad, goods):
                told = plan(web, bad, goods)
                answers, end = answers_of(web, told, suspect)
                self.assertEqual(end, ("found", suspect))
                for many in range(len(answers) + 1):
                    self.assertEqual(led(led(told, answers[:many]), answers[many:]), end)
                check_refused(self, NoAsking, led, told, answers + [True])

    def test_long_plans(self):
        for turn, answer in ((2, False), (3, True)):
            told = thin_plan(12, turn)
            self.assertEqual(led(told, [answer] * 12), ("found", 0))
            self.assertEqual(led(told, [answer] * 4 + [not answer]), ("found", 1))
            self.assertEqual(led(told, [answer] * 7), thin_plan(5, turn))
            check_refused(self, NoAsking, led, told, [answer] * 13)
            check_refused(self, NoAsking, led, told, [not answer] * 2)


class Length(unittest.TestCase):
    def test_found(self):
        self.assertEqual(length(("found", 0)), 0)
        self.assertEqual(length(("found", 39)), 0)

    def test_up_to_twelve(self):
        for askings in range(13):
            self.assertEqual(length(full_plan(askings)), askings)
            for turn in (2, 3):
                self.assertEqual(length(thin_plan(askings, turn)), askings)
                self.assertEqual(length(thin_plan(12 - askings, turn, full_plan(askings))), 12)

    def test_of_two_ways_the_longer_one(self):
        self.assertEqual(length(("ask", 0, thin_plan(3, 2), thin_plan(5, 3))), 6)
        self.assertEqual(length(("ask", 0, thin_plan(7, 3), thin_plan(5, 2))), 8)


class Own(unittest.TestCase):
    def test_what_is_told_is_the_askers_own(self):
        told = plan(CROSSED, 6, [5])
        for call in (suspects, fewest, plan):
            for bad, goods in ((6, []), (6, [5]), (3, [1, 1]), (5, [])):
                check_own(self, call, list(CROSSED), bad, goods)
        check_own(self, suspects, list(CROSSED), 3, [6])
        check_own(self, plan_holds, list(CROSSED), 6, [5], told)
        check_own(self, led, told, [True, False])
        check_own(self, length, told)


if __name__ == "__main__":
    unittest.main()
