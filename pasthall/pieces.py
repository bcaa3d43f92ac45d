"""A base row and two rows made of it fall into pieces."""

from pasthall.kept import kept
from pasthall.rows import check_row


def piece_of(old, mine, theirs):
    """The piece of a stretch, of the base's lines, the one's and the other's."""
    if old == mine and old == theirs:
        return ("same", old)
    if old == theirs:
        return ("one", old, mine)
    if old == mine:
        return ("other", old, theirs)
    if mine == theirs:
        return ("both", old, mine)
    return ("clash", old, mine, theirs)


def add_piece(told, piece):
    """Add a piece to those told so far; lines that are the same stand in as few pieces as can be."""
    if piece == ("same", []):
        return
    if told != [] and told[-1][0] == "same" and piece[0] == "same":
        told[-1][1].extend(piece[1])
    else:
        told.append(piece)


def held_places(base, one, other):
    """For each held place of the base the places in the three rows, and at last where all three end."""
    in_one = dict(kept(base, one))
    in_other = dict(kept(base, other))
    held = [(i, in_one[i], in_other[i]) for i in sorted(in_one) if i in in_other]
    return held + [(len(base), len(one), len(other))]


def pieces(base, one, other):
    """The pieces into which a base row and two rows made of it fall."""
    told = []
    start = (0, 0, 0)
    for place in held_places(base, one, other):
        add_piece(told, piece_of(base[start[0]:place[0]], one[start[1]:place[1]], other[start[2]:place[2]]))
        # At the end no line is held, and this slice is empty.
        add_piece(told, ("same", base[place[0]:place[0] + 1]))
        start = (place[0] + 1, place[1] + 1, place[2] + 1)
    return told


def sides_of(piece):
    """The lines of a piece in the base, in the one and in the other."""
    word = piece[0]
    old = piece[1]
    if word == "same":
        return (old, old, old)
    if word == "one":
        return (old, piece[2], old)
    if word == "other":
        return (old, old, piece[2])
    if word == "both":
        return (old, piece[2], piece[2])
    return (old, piece[2], piece[3])


def sides(told):
    """The sides of pieces: the base, the one and the other."""
    base = []
    one = []
    other = []
    for piece in told:
        lines = sides_of(piece)
        base.extend(lines[0])
        one.extend(lines[1])
        other.extend(lines[2])
    return (base, one, other)


def piece_holds(piece):
    """Whether a same piece has a line, and another one no rows alike."""
    if piece[0] == "same":
        return piece[1] != []
    if piece[0] == "clash" and piece[2] == piece[3]:
        return False
    return all([lines != piece[1] for lines in piece[2:]])


def by_turns(told):
    """Whether of two pieces that follow one another just one is a same one."""
    same = [piece[0] == "same" for piece in told]
    return all([here != later for here, later in zip(same, same[1:])])


def pieces_hold(base, one, other, told):
    """Whether pieces hold for three rows."""
    for row in (base, one, other):
        check_row(row)
    if not by_turns(told) or not all([piece_holds(piece) for piece in told]):
        return False
    return sides(told) == (base, one, other)
