"""What the tests share: rows to try, and a look at whose the lists are."""

import copy
import itertools
import random

LINES = ("", "a", "b")


def all_rows(lines, most):
    """All rows of the given lines with at most so many of them."""
    return [list(row) for many in range(most + 1) for row in itertools.product(lines, repeat=many)]


def own_line(number):
    """A line of its own for each number from 0 to 675; none is in LINES."""
    return "x" + chr(ord("a") + number // 26) + chr(ord("a") + number % 26)


def own_lines(many):
    return [own_line(number) for number in range(many)]


def some_row(chance, most=40, lines=("", "a", "b", "c", "abcdefgh")):
    return [chance.choice(lines) for place in range(chance.randint(0, most))]


def chances(seed, many):
    """As many sources of chance, each the same in every run."""
    return [random.Random(seed * 100000 + number) for number in range(many)]


def holders(value):
    """All lists and dicts in a value, itself too."""
    found = [value] if isinstance(value, (list, dict)) else []
    if isinstance(value, dict):
        within = list(value.values())
    else:
        within = value if isinstance(value, (list, tuple)) else []
    for part in within:
        found.extend(holders(part))
    return found


def spoil(value):
    """Change all lists and dicts in a value."""
    for holder in holders(value):
        if isinstance(holder, dict):
            holder["spoilt"] = ["spoilt"]
        else:
            holder.insert(0, "spoilt")


def check_own(test, call, *handed):
    """Promise [1] for one call: nothing handed in is changed or told, and what is told is the asker's own."""
    before = copy.deepcopy(handed)
    told = call(*handed)
    first_told = copy.deepcopy(told)
    test.assertEqual(handed, before)
    found = [id(holder) for holder in holders(told)]
    test.assertEqual(len(found), len(set(found)), "two lists or dicts of what is told are one")
    taken = set(id(holder) for holder in holders(handed))
    test.assertFalse(taken & set(found), "what is told holds what was handed in")
    spoil(told)
    test.assertEqual(handed, before)
    test.assertEqual(call(*handed), first_told)
    # Nothing hangs on what was handed in either: other lists with the same in them are told the same.
    spoil(handed)
    test.assertEqual(call(*before), first_told)


def check_refused(test, error, call, *handed):
    """A call is refused with just this error, and changes nothing of what was handed in."""
    before = copy.deepcopy(handed)
    with test.assertRaises(error) as caught:
        call(*handed)
    test.assertIs(type(caught.exception), error)
    test.assertEqual(handed, before)
