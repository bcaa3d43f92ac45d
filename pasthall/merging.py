"""Pieces merged to one row, and their clashes settled by picks."""

from pasthall.errors import BadRow, Clash, NoFit
from pasthall.rows import MOST_LINES

# For each pick the places in a clash of the lines that it sets: 1 the old ones, 2 mine, 3 theirs.
PICKS = {"old": (1,), "one": (2,), "other": (3,), "one other": (2, 3), "other one": (3, 2)}


def lines_picked(piece, pick):
    """The lines that a pick sets in the place of a clash."""
    lines = []
    for place in PICKS[pick]:
        lines.extend(piece[place])
    return lines


def row_of(told, picks):
    """The row of pieces, with a pick for each clash."""
    row = []
    picked = 0
    for piece in told:
        if piece[0] == "clash":
            row.extend(lines_picked(piece, picks[picked]))
            picked += 1
        else:
            row.extend(piece[-1])
    if len(row) > MOST_LINES:
        raise BadRow("a row of too many lines")
    return row


def clashes(told):
    """How many clashes are among pieces."""
    return len([piece for piece in told if piece[0] == "clash"])


def merged(told):
    """The row of pieces without a clash."""
    if clashes(told) > 0:
        raise Clash()
    return row_of(told, [])


def settled(told, picks):
    """The row of pieces, each clash settled by its pick."""
    if len(picks) != clashes(told) or not all([pick in PICKS for pick in picks]):
        raise NoFit("not one pick for each clash, or a text that is none")
    return row_of(told, picks)
