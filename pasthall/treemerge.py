"""Trees merged path by path, and versions merged by the tree common to them."""

from pasthall.commons import latest_common
from pasthall.errors import BadRow, Clash
from pasthall.merging import merged
from pasthall.pieces import pieces
from pasthall.trees import check_tree


def merged_file(base, one, other):
    """What a path has by its rows, or None for nothing, in three trees; refused with Clash where it clashes."""
    if one == base:
        return other
    if other == base or one == other:
        return one
    if base is None or one is None or other is None:
        raise Clash()
    try:
        return merged(pieces(base, one, other))
    except BadRow:
        raise Clash() from None


def merged_trees(base, one, other):
    """The tree of two trees merged by a base."""
    for tree in (base, one, other):
        check_tree(tree)
    files = {}
    clashing = []
    for path in sorted(set(base) | set(one) | set(other)):
        try:
            row = merged_file(base.get(path), one.get(path), other.get(path))
            if row is not None:
                files[path] = list(row)
        except Clash:
            clashing.append(path)
    if clashing != []:
        raise Clash(clashing)
    # Fewer files than handed in may come, or more: each side may have put some of its own.
    check_tree(files)
    return files


def common_tree_of(history, web, some, known):
    """The tree common to some versions; `known` holds, by the latest common ones, what was put together so far."""
    latest = latest_common(web, some)
    # Crossing elders lead to the same few latest ones again and again, so each are put together once.
    if tuple(latest) not in known:
        known[tuple(latest)] = put_together(history, web, latest, known)
    return known[tuple(latest)]


def put_together(history, web, latest, known):
    """The tree of the latest common ones, merged one behind the other."""
    if latest == []:
        return {}
    tree = history.tree(latest[0])
    for many in range(1, len(latest)):
        base = common_tree_of(history, web, latest[:many + 1], known)
        tree = merged_trees(base, tree, history.tree(latest[many]))
    return tree


def common_tree(history, some):
    """The tree common to some versions of a history."""
    return common_tree_of(history, history.web(), some, {})


def merged_versions(history, one, other):
    """The tree of two versions of a history, merged."""
    base = common_tree(history, [one, other])
    return merged_trees(base, history.tree(one), history.tree(other))
