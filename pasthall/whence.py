"""Whence lines are: chains from each line to the one that it comes from, up to where it came in."""

from pasthall.errors import BadPaper, NoFile
from pasthall.kept import kept
from pasthall.webs import check_web, is_version


def row_at(history, version, path):
    """The row that a version has at a path."""
    tree = history.tree(version)
    if path not in tree:
        raise NoFile("a path that the tree has not")
    return tree[path]


def check_line(history, version, path, place):
    """Refuse what is no line of a history."""
    row = row_at(history, version, path)
    if place < 0 or place >= len(row):
        raise NoFile("a place that the row has not")


def sources(history, version, path):
    """For each line of a version's row the elder's line, (elder, place), from which it comes, or None."""
    row = row_at(history, version, path)
    found = [None] * len(row)
    # Elders rise, so the least one that keeps a line is the first to be asked.
    for elder in history.web()[version]:
        tree = history.tree(elder)
        if path in tree:
            for i, j in kept(tree[path], row):
                if found[j] is None:
                    found[j] = (elder, i)
    return found


def step_up(line, version, found):
    """Where a line, (version, place), comes from if it is one of a version with these sources; else itself."""
    if line[0] != version or found[line[1]] is None:
        return line
    return found[line[1]]


def whence(history, version, path):
    """For each line of a version's row the line, (version, place), as which it came in."""
    lines = [(version, place) for place in range(len(row_at(history, version, path)))]
    # Elders are lesser, so from the version down all lines of a version are gathered ahead of their next step.
    for number in range(version, -1, -1):
        if number in [line[0] for line in lines]:
            found = sources(history, number, path)
            lines = [step_up(line, number, found) for line in lines]
    return lines


def chain(history, version, path, place):
    """The chain of a line."""
    check_line(history, version, path, place)
    told = []
    line = (version, place)
    while line is not None:
        told.append(line)
        line = sources(history, line[0], path)[line[1]]
    return told


def is_line_at(history, version, path, place):
    """Whether a version, a path and a place are a line of a history that has versions."""
    if not is_version(history.web(), version):
        return False
    tree = history.tree(version)
    return path in tree and 0 <= place < len(tree[path])


def chain_holds(history, path, told):
    """Whether a chain handed in is the chain of its first line."""
    check_web(history.web())
    if told == [] or not all([is_line_at(history, version, path, place) for version, place in told]):
        raise BadPaper("no lines at all, or what is no line of the history with the path")
    # Step by step, so that no rows but those of the chain's own versions and of their elders are looked at.
    for line, source in zip(told, told[1:] + [None]):
        if sources(history, line[0], path)[line[1]] != source:
            return False
    return True
