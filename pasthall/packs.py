"""Packs read: from a text back to the history that was packed."""

from pasthall.changes import changed
from pasthall.errors import BadText, PastError
from pasthall.histories import History
from pasthall.packing import packed

MOST_DEPTH = 9
# Versions, places, lines and deeds are all fewer than a hundred; a sum is not read, but reckoned anew.
MOST_FIGURES = 2
MARKS = {"+": "put", "-": "take"}


class Reading:
    """The lines of a text, read one behind the other."""

    def __init__(self, text):
        self.lines = text.split("\n")
        self.many_read = 0

    def next_line(self):
        """The next line."""
        if self.many_read == len(self.lines):
            raise BadText("the text ends too early")
        self.many_read += 1
        return self.lines[self.many_read - 1]


def number_of(text):
    """The number that figures write."""
    if text == "" or len(text) > MOST_FIGURES or not all(["0" <= sign <= "9" for sign in text]):
        raise BadText("no number")
    return int(text)


def three_words(line):
    """The three words of a line with a blank between two of them."""
    words = line.split(" ")
    if len(words) != 3:
        raise BadText("not three words")
    return words


def read_row(reading, many):
    """The row of as many lines."""
    lines = [reading.next_line() for turn in range(many)]
    if not all([line.startswith("=") for line in lines]):
        raise BadText("a line of a row without its sign")
    return [line[1:] for line in lines]


def deed_of(line):
    """The deed of an edit that a line tells."""
    if line[:1] not in MARKS:
        raise BadText("neither a put nor a take")
    parts = line[1:].partition("=")
    return (MARKS[line[:1]], number_of(parts[0]), parts[2])


def read_deeds(reading, many):
    """The edit of as many deeds."""
    return [deed_of(reading.next_line()) for turn in range(many)]


def read_files(reading):
    """The files or deeds of a version: a dict from paths to tuples of the word and the list, as of a change."""
    files = {}
    line = reading.next_line()
    while not line.startswith("sum "):
        words = three_words(line)
        many = number_of(words[2])
        part = read_deeds(reading, many) if words[0] == "edit" else read_row(reading, many)
        files[words[1]] = (words[0], part)
        line = reading.next_line()
    return files


def whole_tree(files):
    """The tree of the files of a version packed whole."""
    tree = {}
    for path in files:
        # What an edit has in the place of a row is of another kind.
        if files[path][0] != "file":
            raise BadText("a deed in a version packed whole")
        tree[path] = files[path][1]
    return tree


def elders_of_line(line):
    """The elders that the line of a version tells."""
    words = line.split(" ")
    if words[0] != "version":
        raise BadText("no version")
    return () if words[1:] == ["-"] else tuple([number_of(word) for word in words[1:]])


def read_version(reading, history):
    """Read a version and add it to the history read so far."""
    elders = elders_of_line(reading.next_line())
    more = reading.next_line() == "more"
    files = read_files(reading)
    if more and elders != ():
        history.put_version(elders, changed(history.tree(elders[0]), files))
    else:
        history.put_version(elders, whole_tree(files))


def read_pack(text):
    """The history that a text tells, and its depth; looked at no further than reading it needs."""
    reading = Reading(text)
    words = three_words(reading.next_line())
    history = History()
    depth = number_of(words[2])
    if depth > MOST_DEPTH:
        raise BadText("no depth")
    for turn in range(number_of(words[1])):
        read_version(reading, history)
    return (history, depth)


def unpacked(text):
    """The history of a pack."""
    try:
        pack = read_pack(text)
        again = packed(pack[0], pack[1])
    except PastError:
        raise BadText("no pack") from None
    # A history has one text by a depth: whatever differs from it, sums and order and form alike, is no pack.
    if again != text:
        raise BadText("not what is packed")
    return pack[0]
