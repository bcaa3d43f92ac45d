"""Contrary tables: the paper that no plan finds the first bad one with fewer askings."""

from pasthall.asking import askings, best_asking, few_suspects, left_behind, suspects
from pasthall.errors import NoAsking


def harder_group(some, part, parts, known):
    """Of the two groups that an asking leaves of some suspects, one that needs the more askings."""
    left = left_behind(some, part)
    if () in left:
        return some
    good = best_asking(left[0], parts, known)
    bad = best_asking(left[1], parts, known)
    return left[0] if good[0] >= bad[0] else left[1]


def add_rows(rows, some, many, parts, known):
    """Add to the rows one of some suspects with a number, and those that it needs to hold."""
    if (some, many) in rows:
        return
    rows[(some, many)] = True
    if many < 2:
        return
    for version in parts:
        group = harder_group(some, parts[version], parts, known)
        # An asking that leaves all of them is answered by the row itself.
        if group != some:
            add_rows(rows, group, many - 1, parts, known)


def contrary(web, bad, goods, many):
    """A contrary table of a number that is no more than the fewest askings."""
    some = few_suspects(web, bad, goods)
    parts = askings(web, some)
    known = {}
    if many < 0 or many > best_asking(some, parts, known)[0]:
        raise NoAsking("there is no contrary table of this number")
    rows = {}
    add_rows(rows, some, many, parts, known)
    return list(rows)


def is_group(group, found):
    """Whether numbers are one or more of the suspects, rising, none twice."""
    if group == () or not all([number in found for number in group]):
        return False
    return list(group) == sorted(set(group))


def greatest_numbers(table):
    """For each group of suspects in a table the greatest number with which it stands there."""
    greatest = {}
    for group, number in table:
        greatest[group] = max(number, greatest.get(group, number))
    return greatest


def row_holds(group, number, greatest, parts):
    """Whether a row of a table holds by the other rows."""
    if number == 0:
        return True
    if len(group) < 2:
        return False
    # With 1 nothing more is asked of it: each group has nought or more, whether it stands in the table or not.
    for version in parts:
        left = left_behind(group, parts[version])
        if max(greatest.get(left[0], 0), greatest.get(left[1], 0)) < number - 1:
            return False
    return True


def contrary_holds(web, bad, goods, many, table):
    """Whether a contrary table holds for a number."""
    found = tuple(suspects(web, bad, goods))
    if (found, many) not in table:
        return False
    if not all([is_group(group, found) and number >= 0 for group, number in table]):
        return False
    greatest = greatest_numbers(table)
    parts = askings(web, found)
    return all([row_holds(group, number, greatest, parts) for group, number in table])
