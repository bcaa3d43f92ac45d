"""Changes: files put into a tree, taken out of it and edited in it."""

from pasthall.edits import applied, behind, edit, is_edit, turned
from pasthall.errors import BadChange, NoFit
from pasthall.rows import is_row
from pasthall.trees import MOST_FILES, check_tree, is_path


def is_file_deed(deed):
    """Whether a tuple of a text and a list is a deed of a change."""
    if deed[0] == "edit":
        return deed[1] != [] and is_edit(deed[1])
    return deed[0] in ("new", "gone") and is_row(deed[1])


def is_change(change):
    """Whether a dict from texts to tuples of a text and a list is a change."""
    if not all([is_path(path) and is_file_deed(deed) for path, deed in change.items()]):
        return False
    words = [deed[0] for deed in change.values()]
    ahead = len(words) - words.count("new")
    later = len(words) - words.count("gone")
    return ahead <= MOST_FILES and later <= MOST_FILES


def check_change(handed):
    """Refuse what is no change."""
    if not is_change(handed):
        raise BadChange("no change of a tree")


def deed_between(old_row, new_row):
    """The deed that leads a path from a row, or None for no file, to another one; None where both are alike."""
    if old_row == new_row:
        return None
    if old_row is None:
        return ("new", list(new_row))
    if new_row is None:
        return ("gone", list(old_row))
    return ("edit", edit(old_row, new_row))


def change(old, new):
    """The change of two trees."""
    check_tree(old)
    check_tree(new)
    deeds = {}
    for path in sorted(set(old) | set(new)):
        deed = deed_between(old.get(path), new.get(path))
        if deed is not None:
            deeds[path] = deed
    return deeds


def row_behind(row, deed):
    """The row, or None for no file, that comes of a path's row by a deed, or by None for no deed."""
    if deed is None:
        return list(row)
    if (row is None) != (deed[0] == "new"):
        raise NoFit("a file that is put is there, or one that is taken or edited is not")
    if deed[0] == "new":
        return list(deed[1])
    if deed[0] == "edit":
        return applied(row, deed[1])
    if row != deed[1]:
        raise NoFit("a file that is taken has another row")
    return None


def changed(tree, change):
    """What comes of a tree by a change."""
    check_tree(tree)
    check_change(change)
    files = {}
    for path in sorted(set(tree) | set(change)):
        row = row_behind(tree.get(path), change.get(path))
        if row is not None:
            files[path] = row
    if len(files) > MOST_FILES:
        raise NoFit("too many files")
    return files


def turned_deed(deed):
    """The deed that leads a path back."""
    if deed[0] == "edit":
        return ("edit", turned(deed[1]))
    return ("gone" if deed[0] == "new" else "new", list(deed[1]))


def turned_change(change):
    """The change that leads back."""
    check_change(change)
    back = {}
    for path in sorted(change):
        back[path] = turned_deed(change[path])
    return back


def edited_on(deeds, later):
    """The deed, or None, that an edit of a file and a later deed make."""
    if later[0] == "new":
        raise NoFit("a file that is put is there")
    if later[0] == "gone":
        # One row alone comes to the one taken, and the turned edit leads back to it.
        return ("gone", applied(later[1], turned(deeds)))
    one = behind(deeds, later[1])
    return ("edit", one) if one != [] else None


def joined_deed(deed, later):
    """The deed, or None, that the deeds of two changes at one path make; one of the two may be None."""
    if deed is None or later is None:
        alone = later if deed is None else deed
        return (alone[0], list(alone[1]))
    if deed[0] == "edit":
        return edited_on(deed[1], later)
    if deed[0] == "new":
        return deed_between(None, row_behind(deed[1], later))
    return deed_between(deed[1], row_behind(None, later))


def where_needed(deed, later):
    """Whether a path must be there ahead of two changes, between them and behind them, by its deeds in both."""
    there = []
    if deed is not None:
        there.extend([deed[0] != "new", deed[0] != "gone"])
    else:
        there.extend([later[0] != "new", later[0] != "new"])
    there.append(there[1] if later is None else later[0] != "gone")
    return there


def check_many(first, second):
    """Refuse two changes for which each tree would have too many files at one of three moments."""
    needs = [where_needed(first.get(path), second.get(path)) for path in sorted(set(first) | set(second))]
    for moment in range(3):
        if len([there for there in needs if there[moment]]) > MOST_FILES:
            raise NoFit("no tree has few enough files for both changes")


def followed(first, second):
    """One change for two that follow."""
    check_change(first)
    check_change(second)
    check_many(first, second)
    one = {}
    for path in sorted(set(first) | set(second)):
        deed = joined_deed(first.get(path), second.get(path))
        if deed is not None:
            one[path] = deed
    return one


def first_with(paths, tree, row):
    """The first of some paths of a tree that has a row, or None."""
    for path in paths:
        if tree[path] == row:
            return path
    return None


def moves(old, new):
    """The moves of two trees."""
    check_tree(old)
    check_tree(new)
    left = [path for path in sorted(old) if path not in new]
    pairs = []
    for path in [path for path in sorted(new) if path not in old]:
        source = first_with(left, old, new[path])
        if source is not None:
            left.remove(source)
            pairs.append((source, path))
    return pairs


def leads(old, new, change):
    """Whether a change fits a tree and leads to another one."""
    check_tree(old)
    check_tree(new)
    try:
        return changed(old, change) == new
    except NoFit:
        return False
