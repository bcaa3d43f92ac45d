"""Sums of versions, and the papers by which they are looked at without the history."""

from pasthall.trees import check_tree

# The number of a sign is its place here, counted from 1.
SIGNS = "\n 0123456789abcdefghijklmnopqrstuvwxyz"
BEGINNING = 7
FACTOR = 31
RING = 1000003


def text_sum(text):
    """The sum of a text."""
    number = BEGINNING
    for sign in text:
        number = (FACTOR * number + SIGNS.index(sign) + 1) % RING
    return number


def whole_text(tree):
    """The whole text of a tree."""
    lines = []
    for path in sorted(tree):
        many = len(tree[path])
        lines.append(f"{path} {many}")
        lines.extend(tree[path])
    return "".join([f"{line}\n" for line in lines])


def version_sum(elder_sums, tree):
    """The sum of a version, of its elders' sums and its tree."""
    head = "".join([f"{number} " for number in elder_sums])
    return text_sum(head + "\n" + whole_text(tree))


def sums(history):
    """The list of all versions' sums."""
    told = []
    for version, elders in enumerate(history.web()):
        told.append(version_sum([told[elder] for elder in elders], history.tree(version)))
    return told


def sum_paper(history, version):
    """The sum paper of a version: its elders' sums and its tree."""
    # First of all, since it refuses what is no version.
    tree = history.tree(version)
    known = sums(history)
    return ([known[elder] for elder in history.web()[version]], tree)


def sum_holds(number, paper):
    """Whether a sum paper holds for a number."""
    check_tree(paper[1])
    return version_sum(paper[0], paper[1]) == number


def lacks(history, numbers):
    """The rising list of the versions whose sum is not among some numbers."""
    return [version for version, number in enumerate(sums(history)) if number not in numbers]
