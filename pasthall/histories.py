"""Histories: a web, and a tree for each of its versions."""

from pasthall.errors import BadWeb
from pasthall.trees import check_tree, copied_tree
from pasthall.webs import MOST_VERSIONS, are_elders, check_versions


class History:
    """Versions, numbered from 0, each with its elders and its tree; they are added, and then they stay."""

    def __init__(self):
        self.elders = []
        self.trees = []

    def many(self):
        """How many versions there are."""
        return len(self.elders)

    def web(self):
        """The list of the elders, version by version."""
        return list(self.elders)

    def put_version(self, elders, tree):
        """Add a version; told is its number."""
        number = self.many()
        if number >= MOST_VERSIONS or not are_elders(elders, number):
            raise BadWeb("no elders of the next version, or a version too many")
        check_tree(tree)
        self.elders.append(elders)
        self.trees.append(copied_tree(tree))
        return number

    def tree(self, version):
        """The tree of a version."""
        check_versions(self.elders, [version])
        return copied_tree(self.trees[version])


def copied_history(history):
    """A history of its own with the same web and trees."""
    fresh = History()
    for version, elders in enumerate(history.web()):
        fresh.put_version(elders, history.tree(version))
    return fresh
