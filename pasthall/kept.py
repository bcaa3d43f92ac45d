"""Kept pairs of two rows, and the ladder: the paper that no more can be kept."""

from pasthall.errors import BadPaper
from pasthall.rows import check_row


def next_heights(line, new, heights):
    """The heights of the next rung: how many pairs the lines of old so far make with each beginning of new."""
    higher = [0]
    for j, other in enumerate(new):
        if other == line:
            # No list of pairs is longer by more than one for one line more.
            higher.append(heights[j] + 1)
        else:
            higher.append(max(heights[j + 1], higher[j]))
    return higher


def all_heights(old, new):
    """For each beginning of old, and in it for each of new, the most pairs that both can make."""
    told = [[0] * (len(new) + 1)]
    for line in old:
        told.append(next_heights(line, new, told[-1]))
    return told


def place_from(row, line, start):
    """The first place of a line in a row from a place on, or None."""
    for place in range(start, len(row)):
        if row[place] == line:
            return place
    return None


def kept(old, new):
    """The kept pairs of two rows."""
    check_row(old)
    check_row(new)
    # Turned round, beginnings are ends: so it is known what can still be had behind each place.
    ends = all_heights(old[::-1], new[::-1])
    pairs = []
    start = 0
    for i, line in enumerate(old):
        j = place_from(new, line, start)
        # The first j leaves the most behind it, so no later one can be needed.
        if j is not None and most_behind(ends, i + 1, j + 1) + 1 == most_behind(ends, i, start):
            pairs.append((i, j))
            start = j + 1
    return pairs


def most_behind(ends, i, j):
    """The most pairs that old from i on and new from j on can make."""
    return ends[len(ends) - 1 - i][len(ends[0]) - 1 - j]


def rung_of(heights):
    """The numbers at which heights rise."""
    return [x for x in range(1, len(heights)) if heights[x] > heights[x - 1]]


def ladder(old, new):
    """A ladder of two rows that holds, with a last rung as long as the kept pairs."""
    check_row(old)
    check_row(new)
    return [rung_of(heights) for heights in all_heights(old, new)]


def is_rung(rung, most):
    """Whether numbers rise from 1 or more to at most a number, none twice."""
    last = 0
    for number in rung:
        if number <= last or number > most:
            return False
        last = number
    return True


def check_ladder(old, new, rungs):
    """Refuse what is no ladder of two rows."""
    if len(rungs) != len(old) + 1 or rungs[0] != []:
        raise BadPaper("not one rung more than old has lines, the first one empty")
    if not all([is_rung(rung, len(new)) for rung in rungs]):
        raise BadPaper("a rung that is no rising list of numbers up to the count of new's lines")


def heights_of(rung, most):
    """The heights of a rung at the numbers from nought to the count of new's lines."""
    heights = []
    height = 0
    for x in range(most + 1):
        if height < len(rung) and rung[height] == x:
            height += 1
        heights.append(height)
    return heights


def step_holds(line, new, low, high):
    """Whether the heights of a rung are enough above those of the rung ahead, for the line of old between."""
    for x in range(len(new) + 1):
        if high[x] < low[x]:
            return False
    for j, other in enumerate(new):
        if other == line and high[j + 1] < low[j] + 1:
            return False
    return True


def ladder_holds(old, new, rungs):
    """Whether a ladder of two rows holds."""
    check_row(old)
    check_row(new)
    check_ladder(old, new, rungs)
    heights = [heights_of(rung, len(new)) for rung in rungs]
    for i, line in enumerate(old):
        if not step_holds(line, new, heights[i], heights[i + 1]):
            return False
    return True
