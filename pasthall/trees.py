"""Trees: dicts from paths to rows."""

from pasthall.errors import BadTree
from pasthall.rows import is_line, is_row

MOST_FILES = 8


def is_path(text):
    """Whether a text is a path: a line that is not empty."""
    return text != "" and is_line(text)


def is_tree(tree):
    """Whether a dict from texts to lists of texts is a tree."""
    if len(tree) > MOST_FILES:
        return False
    return all([is_path(path) and is_row(row) for path, row in tree.items()])


def check_tree(tree):
    """Refuse what is no tree."""
    if not is_tree(tree):
        raise BadTree("no tree of files")


def copied_tree(tree):
    """A tree of its own with the same files, by rising paths."""
    files = {}
    for path in sorted(tree):
        files[path] = list(tree[path])
    return files
