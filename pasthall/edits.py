"""Edits: deeds that take lines out of a row and put lines into it."""

from pasthall.errors import BadEdit, NoFit
from pasthall.kept import kept
from pasthall.rows import MOST_LINES, check_row, is_line


def edit(old, new):
    """The edit of two rows."""
    deeds = []
    old_start = 0
    new_start = 0
    # The ends of both rows, as a last pair, close the stretch behind the last kept one.
    for i, j in kept(old, new) + [(len(old), len(new))]:
        deeds.extend([("take", place, old[place]) for place in range(old_start, i)])
        deeds.extend([("put", i, line) for line in new[new_start:j]])
        old_start = i + 1
        new_start = j + 1
    return deeds


def is_deed(word, place, line):
    """Whether a word, a place and a line can be a deed of some edit."""
    return word in ("take", "put") and place >= 0 and is_line(line)


def place_behind(deed):
    """The first place at which a deed behind this one may stand; a take closes its place."""
    return deed[1] + 1 if deed[0] == "take" else deed[1]


def in_order(deeds):
    """Whether deeds stand by rising places, the puts of a place ahead of its one take."""
    return all([deed[1] >= place_behind(ahead) for ahead, deed in zip(deeds, deeds[1:])])


def length_needed(deeds):
    """How many lines a row must have for the places of deeds in order to be there."""
    # Places rise, so the last deed asks for the longest row.
    return place_behind(deeds[-1]) if deeds != [] else 0


def growth(deeds):
    """By how many lines deeds make a row longer."""
    words = [deed[0] for deed in deeds]
    return words.count("put") - words.count("take")


def is_edit(deeds):
    """Whether deeds, tuples of a text, a whole number and a text, are an edit."""
    if not all([is_deed(word, place, line) for word, place, line in deeds]) or not in_order(deeds):
        return False
    # If they fit any row they fit one of the shortest: a longer one comes to no fewer lines.
    needed = length_needed(deeds)
    return needed <= MOST_LINES and needed + growth(deeds) <= MOST_LINES


def check_edit(deeds):
    """Refuse what is no edit."""
    if not is_edit(deeds):
        raise BadEdit("no edit of a row")


def applied(row, deeds):
    """What comes of a row by an edit."""
    check_row(row)
    check_edit(deeds)
    if length_needed(deeds) > len(row) or len(row) + growth(deeds) > MOST_LINES:
        raise NoFit("a place that the row has not, or too many lines")
    new = []
    start = 0
    for word, place, line in deeds:
        new.extend(row[start:place])
        start = place
        if word == "put":
            new.append(line)
        elif row[place] == line:
            start = place + 1
        else:
            raise NoFit("another line is to be taken than the one that stands there")
    new.extend(row[start:])
    return new


def turned(deeds):
    """The edit that leads back."""
    check_edit(deeds)
    back = []
    shift = 0
    for word, place, line in deeds:
        if word == "put":
            back.append(("take", place + shift, line))
            shift += 1
        else:
            back.append(("put", place + shift, line))
            shift -= 1
    return back


def shortest_row(first, second):
    """The length of the shortest row that two edits fit, one behind the other, by places and lengths."""
    shortest = max(length_needed(first), length_needed(second) - growth(first))
    between = shortest + growth(first)
    if max(shortest, between, between + growth(second)) > MOST_LINES:
        raise NoFit("no row is short enough for both edits")
    return shortest


def with_kept_places(deeds, length):
    """Deeds, and between them a tuple ("keep", place, "") for each place not taken; the last one is the row's end."""
    steps = []
    start = 0
    for deed in deeds:
        steps.extend([("keep", place, "") for place in range(start, deed[1])])
        steps.append(deed)
        start = place_behind(deed)
    steps.extend([("keep", place, "") for place in range(start, length + 1)])
    return steps


def woven(first, second):
    """Two edits that follow, woven to one in the places of the first one's row.

    Told are tuples of the owner, "first" or "second", and the deed. A line that the first one puts and the second
    one takes leaves no trace.
    """
    deeds = []
    done = 0
    between = 0
    for step in with_kept_places(first, shortest_row(first, second)):
        # What the first edit takes has no place in the row between both.
        if step[0] == "take":
            deeds.append(("first", step))
            continue
        stays = True
        while done < len(second) and second[done][1] == between:
            stays = second[done][0] == "put"
            deeds.extend(second_deeds(second[done], step))
            done += 1
        if stays and step[0] == "put":
            deeds.append(("first", step))
        between += 1
    return deeds


def second_deeds(deed, step):
    """What a deed of the second edit is in the first one's row, where it meets a step of the first one: one or none."""
    word = deed[0]
    line = deed[2]
    if word == "put" or step[0] == "keep":
        return [("second", (word, step[1], line))]
    if line != step[2]:
        raise NoFit("the second edit takes another line than the first one puts there")
    return []


def behind(first, second):
    """One edit for two that follow."""
    check_edit(first)
    check_edit(second)
    return [deed for owner, deed in woven(first, second)]
