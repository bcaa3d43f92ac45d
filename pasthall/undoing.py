"""What a version did to an elder of it, taken back from a head."""

from pasthall.errors import NoVersion
from pasthall.treemerge import merged_trees
from pasthall.webs import check_versions


def undone(history, head, version, elder):
    """The head's tree without what a version did to an elder of it."""
    web = history.web()
    check_versions(web, [head, version])
    if elder not in web[version]:
        raise NoVersion("no elder of the version")
    return merged_trees(history.tree(version), history.tree(head), history.tree(elder))
