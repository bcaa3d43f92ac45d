"""Two edits passed: the second one's deeds ahead of the first one's."""

from pasthall.edits import check_edit, growth, shortest_row, woven
from pasthall.errors import NoFit
from pasthall.rows import MOST_LINES


def deeds_behind(both):
    """The first edit's deeds of two woven ones, in the places of what comes of the second one's deeds."""
    deeds = []
    shift = 0
    for owner, deed in both:
        if owner == "first":
            deeds.append((deed[0], deed[1] + shift, deed[2]))
        else:
            shift += growth([deed])
    return deeds


def passed(first, second):
    """The two edits that do the same in the other order, or None where both hang together."""
    check_edit(first)
    check_edit(second)
    both = woven(first, second)
    # Only a line that the one puts and the other takes is lost in the weaving.
    if len(both) < len(first) + len(second):
        return None
    if shortest_row(first, second) + growth(second) > MOST_LINES:
        raise NoFit("the second edit can't come first without too many lines")
    return ([deed for owner, deed in both if owner == "second"], deeds_behind(both))
