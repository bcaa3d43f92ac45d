"""Histories packed to a text: versions whole, or as what is changed in their first elder's tree."""

from pasthall.changes import change
from pasthall.sums import sums
from pasthall.webs import check_web


def chains(web, depth):
    """The list of the chains of a web's versions, by a depth."""
    check_web(web)
    told = []
    for elders in web:
        longer = told[elders[0]] + 1 if elders != () else 0
        told.append(longer if longer <= depth else 0)
    return told


def row_lines(word, path, row):
    """The lines of a pack for a file with its row."""
    many = len(row)
    return [f"{word} {path} {many}"] + [f"={line}" for line in row]


def edit_line(word, place, line):
    """The line of a pack for a deed of an edit."""
    mark = "+" if word == "put" else "-"
    return f"{mark}{place}={line}"


def edit_lines(path, deeds):
    """The lines of a pack for a file that is edited."""
    many = len(deeds)
    return [f"edit {path} {many}"] + [edit_line(word, place, line) for word, place, line in deeds]


def whole_lines(tree):
    """The lines of a pack for a version packed whole."""
    lines = ["whole"]
    for path in sorted(tree):
        lines.extend(row_lines("file", path, tree[path]))
    return lines


def more_lines(old, new):
    """The lines of a pack for a version packed as the change of its first elder's tree to its own."""
    lines = ["more"]
    deeds = change(old, new)
    for path in sorted(deeds):
        word = deeds[path][0]
        if word == "edit":
            lines.extend(edit_lines(path, deeds[path][1]))
        else:
            lines.extend(row_lines(word, path, deeds[path][1]))
    return lines


def elders_line(elders):
    """The line of a pack for a version's elders."""
    words = " ".join([str(elder) for elder in elders]) if elders != () else "-"
    return f"version {words}"


def packed(history, depth):
    """The text of a history, packed by a depth."""
    web = history.web()
    lengths = chains(web, depth)
    known = sums(history)
    many = len(web)
    lines = [f"pack {many} {depth}"]
    for version, elders in enumerate(web):
        tree = history.tree(version)
        number = known[version]
        lines.append(elders_line(elders))
        lines.extend(whole_lines(tree) if lengths[version] == 0 else more_lines(history.tree(elders[0]), tree))
        lines.append(f"sum {number}")
    return "".join([f"{line}\n" for line in lines])
