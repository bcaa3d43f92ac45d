"""What the tests share: rows, trees, webs and histories to try, and a look at whose the lists are."""

import copy
import itertools
import random

from pasthall.changes import change
from pasthall.errors import PastError
from pasthall.histories import History
from pasthall.kept import kept
from pasthall.pieces import pieces

LINES = ("", "a", "b")


def all_rows(lines, most):
    """All rows of the given lines with at most so many of them."""
    return [list(row) for many in range(most + 1) for row in itertools.product(lines, repeat=many)]


def own_line(number):
    """A line of its own for each number from 0 to 675; none is in LINES."""
    return "x" + chr(ord("a") + number // 26) + chr(ord("a") + number % 26)


def own_lines(many):
    return [own_line(number) for number in range(many)]


def some_row(chance, most=40, lines=("", "a", "b", "c", "abcdefgh")):
    return [chance.choice(lines) for place in range(chance.randint(0, most))]


def chances(seed, many):
    """As many sources of chance, each the same in every run."""
    return [random.Random(seed * 100000 + number) for number in range(many)]


def holders(value):
    """All lists and dicts in a value, itself too."""
    found = [value] if isinstance(value, (list, dict)) else []
    if isinstance(value, dict):
        within = list(value.values())
    else:
        within = value if isinstance(value, (list, tuple)) else []
    for part in within:
        found.extend(holders(part))
    return found


def spoil(value):
    """Change all lists and dicts in a value."""
    for holder in holders(value):
        if isinstance(holder, dict):
            holder["spoilt"] = ["spoilt"]
        else:
            holder.insert(0, "spoilt")


def check_own(test, call, *handed):
    """Promise [1] for one call: nothing handed in is changed or told, and what is told is the asker's own."""
    before = copy.deepcopy(handed)
    told = call(*handed)
    first_told = copy.deepcopy(told)
    test.assertEqual(handed, before)
    found = [id(holder) for holder in holders(told)]
    test.assertEqual(len(found), len(set(found)), "two lists or dicts of what is told are one")
    taken = set(id(holder) for holder in holders(handed))
    test.assertFalse(taken & set(found), "what is told holds what was handed in")
    spoil(told)
    test.assertEqual(handed, before)
    test.assertEqual(call(*handed), first_told)
    # Nothing hangs on what was handed in either: other lists with the same in them are told the same.
    spoil(handed)
    test.assertEqual(call(*before), first_told)


def check_refused(test, error, call, *handed):
    """A call is refused with just this error, and changes nothing of what was handed in."""
    before = copy.deepcopy(handed)
    with test.assertRaises(error) as caught:
        call(*handed)
    test.assertIs(type(caught.exception), error)
    test.assertEqual(handed, before)


def done(cells, deeds):
    """What deeds in order make of a row of any things, place by place; lines put are tuples ("put", number, line).

    Told is a tuple of what comes and of the things taken, each with the line that the deed names; None where a place
    is not there.
    """
    puts, takes, numbers = {}, {}, itertools.count()
    for word, place, line in deeds:
        if not 0 <= place < len(cells) + (word == "put"):
            return None
        if word == "put":
            puts.setdefault(place, []).append(("put", next(numbers), line))
        else:
            takes[place] = line
    come, taken = [], []
    for place in range(len(cells) + 1):
        come.extend(puts.get(place, []))
        if place in takes:
            taken.append((cells[place], takes[place]))
        elif place < len(cells):
            come.append(cells[place])
    return come, taken


def lines_both_need(length, first, second):
    """The lines, by places, that a row of a length must have for two edits to fit one behind the other; else None."""
    ahead = done(list(range(length)), first)
    if ahead is None or max(length, len(ahead[0])) > 40:
        return None
    later = done(ahead[0], second)
    if later is None or len(later[0]) > 40:
        return None
    needed = {}
    for cell, line in ahead[1] + later[1]:
        if isinstance(cell, tuple):
            if cell[2] != line:
                return None
        else:
            needed[cell] = line
    return needed


def rows_of_both(first, second):
    """Rows that two edits fit one behind the other: of each length, with lines of their own and with like ones."""
    rows = []
    for length in range(41):
        needed = lines_both_need(length, first, second)
        if needed is not None:
            rows.append([needed.get(place, own_line(place)) for place in range(length)])
            if len(needed) < length:
                rows.append([needed.get(place, "a") for place in range(length)])
    return rows


def lines_of(word, deeds):
    """The lines of the deeds with a word, in their order."""
    return [deed[2] for deed in deeds if deed[0] == word]


def shared_lines(first, second):
    """The lines that the first edit puts and the second one takes, of two that follow."""
    for length in range(41):
        if lines_both_need(length, first, second) is not None:
            between = done(list(range(length)), first)[0]
            return [line for cell, line in done(between, second)[1] if isinstance(cell, tuple)]
    raise AssertionError("the edits don't follow")


def some_edit(chance, row, most=40, thrift=3, lines=("", "a", "b", "zzzzzzzz")):
    """An edit by chance that fits a row."""
    deeds = []
    room = most - len(row)
    for place in range(len(row) + 1):
        gone = place < len(row) and chance.randrange(thrift) == 0
        room += gone
        while room > 0 and chance.randrange(thrift) == 0:
            deeds.append(("put", place, chance.choice(lines)))
            room -= 1
        if gone:
            deeds.append(("take", place, row[place]))
    return deeds


def after(row, deeds):
    """What comes of a row by an edit that fits it."""
    return [cell[2] if isinstance(cell, tuple) else cell for cell in done(row, deeds)[0]]


def some_pairs(seed, many):
    """Pairs of edits that follow, on rows of all lengths."""
    pairs = []
    for chance in chances(seed, many):
        thrift = chance.randint(2, 9)
        row = some_row(chance, chance.choice((1, 3, 8, 40)))
        first = some_edit(chance, row, 40, thrift)
        pairs.append((first, some_edit(chance, after(row, first), 40, thrift)))
    return pairs


def small_edits(lines=("a", "b")):
    """All edits with at most one put at the places 0, 1, 2 and a take at the places 0, 1."""
    choices = []
    for place in range(3):
        choices.append([None] + [("put", place, line) for line in lines])
        if place < 2:
            choices.append([None] + [("take", place, line) for line in lines])
    return [[deed for deed in deeds if deed is not None] for deeds in itertools.product(*choices)]


BAD_EDITS = ([("take", -1, "a")], [("put", -1, "a")], [("take", 40, "a")], [("put", 41, "a")], [("put", 40, "a")],
             [("take", 0, "a"), ("take", 0, "a")], [("take", 0, "a"), ("put", 0, "b")],
             [("put", 1, "a"), ("put", 0, "b")], [("take", 1, "a"), ("take", 0, "b")], [("move", 0, "a")],
             [("", 0, "a")], [("Take", 0, "a")], [("put ", 0, "a")], [("new", 0, "a")], [("put", 0, "A")],
             [("take", 0, "abcdefghi")], [("put", 0, "a\n")], [("take", 0, " ")], [("put", 0, "a")] * 41,
             [("take", 39, "a"), ("put", 40, "b"), ("put", 40, "b")], [("take", 1000, "a")], [("put", 1000, "a")])

PATHS = ("a", "b", "c", "docs", "main", "notes", "readme", "x", "y", "zzzzzzzz")

BAD_TREES = ({"": []}, {"A": []}, {"a b": []}, {"a1": []}, {"abcdefghi": []}, {"a\n": []}, {"a.b": []},
             {"a": [""] * 41}, {"a": ["A"]}, {"a": [], "b": ["abcdefghi"]}, {"a": [], "b c": []},
             {path: [] for path in PATHS[:9]})


def some_tree(chance, most=8, lines=5):
    paths = chance.sample(PATHS, chance.randint(0, most))
    return {path: some_row(chance, lines) for path in paths}


def full_tree():
    """Eight files of forty lines."""
    return {path: [own_line(number * 40 + place) for place in range(40)] for number, path in enumerate(PATHS[:8])}


def some_change(chance, tree, paths=PATHS, lines=5):
    """A change by chance that fits a tree."""
    change = {}
    left = len(tree)
    for path in chance.sample(sorted(tree), len(tree)):
        turn = chance.randrange(3)
        if turn == 0:
            change[path] = ("gone", list(tree[path]))
            left -= 1
        elif turn == 1:
            deeds = some_edit(chance, tree[path], 40, chance.randint(1, 4))
            if deeds:
                change[path] = ("edit", deeds)
    for path in paths:
        if path not in tree and left < 8 and chance.randrange(3) == 0:
            change[path] = ("new", some_row(chance, lines))
            left += 1
    return change


def file_after(row, deed):
    """What a deed makes of a path's row, or of None for no file; False where it doesn't fit."""
    if deed is None:
        return row
    if deed[0] == "new":
        return list(deed[1]) if row is None else False
    if row is None:
        return False
    if deed[0] == "gone":
        return None if row == deed[1] else False
    come = done(row, deed[1])
    if come is None or len(come[0]) > 40 or any(cell != line for cell, line in come[1]):
        return False
    return after(row, deed[1])


def tree_after(tree, change):
    """[2.3] word by word: what a change makes of a tree, or None where it doesn't fit."""
    files = {path: file_after(tree.get(path), change.get(path)) for path in set(tree) | set(change)}
    if any(row is False for row in files.values()):
        return None
    files = {path: row for path, row in files.items() if row is not None}
    return files if len(files) <= 8 else None


def all_elders(version):
    """All tuples that may be the elders of a version."""
    return [elders for many in range(4) for elders in itertools.combinations(range(version), many)]


def all_webs(most):
    """All webs with at most so many versions."""
    return [list(web) for many in range(1, most + 1)
            for web in itertools.product(*[all_elders(version) for version in range(many)])]


def some_web(chance, many=40):
    """A web by chance: wide or narrow, with few elders or with many."""
    reach, most = chance.choice((1, 2, 3, 6, 40)), chance.randint(1, 3)
    web = []
    for version in range(many):
        near = range(max(0, version - reach), version)
        web.append(tuple(sorted(chance.sample(near, min(len(near), chance.randint(0 if reach > 3 else 1, most))))))
    return web


def dense_web(many=40):
    """Each version has the three ahead of it as elders, so there are very many ways."""
    return [tuple(range(max(0, version - 3), version)) for version in range(many)]


BAD_WEBS = ([], [()] * 41, [(0,)], [(-1,)], [(1,), ()], [(), (1,)], [(), (2,)], [(), (-1,)], [(), (0, 0)],
            [(), (), (1, 0)], [(), (), (0, 2)], [(), (), (-1, 0)], [(), (), (0, 1, 1)], [(), (), (), (0, 2, 1)],
            [(), (), (), (), (0, 1, 2, 3)], [(), (), (0, 1), (0, 1, 2, 3)], dense_web(41))


def set_above(web, version, without=()):
    """[3.1]: what is above a version, or is so by ways without some versions."""
    found, left = set(), [version]
    while left:
        number = left.pop()
        if number not in found and number not in without:
            found.add(number)
            left.extend(web[number])
    return found


def common_by_words(web, some):
    """[3.2] word by word: the latest common ones."""
    common = set.intersection(*[set_above(web, version) for version in some])
    return sorted(version for version in common if not any(version in web[other] for other in common))


def history_of(web, trees):
    history = History()
    for elders, tree in zip(web, trees):
        history.put_version(elders, tree)
    return history


def shown(history):
    """All that a history tells."""
    return (history.many(), history.web(), [history.tree(version) for version in range(history.many())])


def check_own_of_history(test, call, history, *handed):
    """Promise [1] for a call that gets a history: neither it nor what is told hangs on the other."""
    before = shown(history)
    check_own(test, lambda *more: call(history, *more), *handed)
    test.assertEqual(shown(history), before)


def check_refused_of_history(test, error, call, history, *handed):
    """A call that gets a history is refused with just this error, and changes nothing."""
    before = shown(history)
    check_refused(test, error, lambda *more: call(history, *more), *handed)
    test.assertEqual(shown(history), before)


def outcome(call, *handed):
    """What a call tells, or the refusal's name and its paths."""
    try:
        return ("told", call(*handed))
    except PastError as error:
        return (type(error).__name__, getattr(error, "paths", None))


def row_or_clash(base, one, other):
    """[4.5] word by word, for one path: a tuple of its row, or None for nothing, and whether it clashes."""
    if one == base:
        return (other, False)
    if other == base:
        return (one, False)
    if one == other:
        return (one, False)
    if None not in (base, one, other):
        told = pieces(base, one, other)
        row = [line for piece in told for line in piece[-1]]
        if "clash" not in [piece[0] for piece in told] and len(row) <= 40:
            return (row, False)
    return (None, True)


def trees_by_words(base, one, other):
    """[4.5] word by word: the outcome of trees that are trees."""
    found = {path: row_or_clash(base.get(path), one.get(path), other.get(path)) for path in {**base, **one, **other}}
    clashing = sorted(path for path, (row, clash) in found.items() if clash)
    if clashing:
        return ("Clash", clashing)
    files = {path: row for path, (row, clash) in found.items() if row is not None}
    return ("told", files) if len(files) <= 8 else ("BadTree", None)


def common_tree_by_words(history, some):
    """[4.6] word by word: the outcome."""
    latest = common_by_words(history.web(), some)
    if not latest:
        return ("told", {})
    come = ("told", history.tree(latest[0]))
    for turn, version in enumerate(latest[1:], 1):
        base = common_tree_by_words(history, latest[:turn] + [version])
        if base[0] != "told":
            return base
        come = trees_by_words(base[1], come[1], history.tree(version))
        if come[0] != "told":
            return come
    return come


def merged_by_words(history, one, other):
    """[4.6] word by word: the outcome of two versions merged."""
    base = common_tree_by_words(history, [one, other])
    return trees_by_words(base[1], history.tree(one), history.tree(other)) if base[0] == "told" else base


def step_on(chance, tree):
    """A tree with a little done to it."""
    tree = {path: list(row) for path, row in tree.items()}
    path = chance.choice(PATHS)
    turn = chance.randrange(8)
    if path not in tree and len(tree) < 8:
        tree[path] = some_row(chance, 2, ("a", "b"))
    elif path in tree and turn == 0:
        del tree[path]
    elif path in tree and turn == 1 and len(tree[path]) < 40:
        tree[path].append("z")
    elif path in tree and tree[path]:
        tree[path][chance.randrange(len(tree[path]))] = chance.choice(("n", "m"))
    return tree


def some_history(chance, many):
    """A history by chance: each version is made of one of its elders."""
    web, trees = some_web(chance, many), []
    start = {path: own_lines(7) for path in PATHS[:chance.randint(1, 6)]}
    for elders in web:
        tree = trees[chance.choice(elders)] if elders else start
        for turn in range(chance.randint(0, 3)):
            tree = step_on(chance, tree)
        trees.append(tree)
    return history_of(web, trees)


def suspects_by_words(web, bad, goods):
    """[5.1] word by word: those that may be the first bad one."""
    found = []
    for version in range(len(web)):
        bads = [number for number in range(len(web)) if version in set_above(web, number)]
        if bad in bads and not any(good in bads for good in goods):
            found.append(version)
    return found


def fewest_by_words(web, some):
    """The least length of a plan that finds each of some suspects, one or more, gone through by all askings."""
    higher = [set_above(web, version) for version in range(len(web))]
    known = {}

    def enough(group, many):
        if len(group) == 1 or many == 0:
            return len(group) <= 1
        if (group, many) not in known:
            known[group, many] = any(enough(group - part, many - 1) and enough(group & part, many - 1)
                                     for part in higher if group & part and group - part)
        return known[group, many]

    return next(many for many in range(len(some)) if enough(frozenset(some), many))


def some_known(chance, web):
    """A version known as bad and a list of some known as good, by chance."""
    goods = [chance.randrange(len(web)) for turn in range(chance.choice((0, 1, 1, 2, 3, 5)))]
    return chance.randrange(len(web)), goods


def line_web(many):
    """Versions one behind the other in one row."""
    return [()] + [(version,) for version in range(many - 1)]


# The two known ones of a web, each with at least one number of no version.
NO_KNOWN = ((-1, []), (0, [-1]), (0, [0, -1]), (1000, []), (0, [1000]), (0, [0, 0, 1000]), (-1, [1000]), (-1000, [0]))


def source_by_words(history, version, path, place):
    """[6.2] word by word: the line from which a line comes, or None."""
    row = history.tree(version)[path]
    for elder in sorted(history.web()[version]):
        tree = history.tree(elder)
        if path in tree:
            for old, new in kept(tree[path], row):
                if new == place:
                    return (elder, old)
    return None


def chain_by_words(history, version, path, place):
    """[6.3] word by word."""
    source = source_by_words(history, version, path, place)
    return [(version, place)] + (chain_by_words(history, source[0], path, source[1]) if source else [])


def lines_at(history, path):
    """All lines of a history with a path, as tuples of the version and the place."""
    trees = [history.tree(version) for version in range(history.many())]
    return [(version, place) for version, tree in enumerate(trees) for place in range(len(tree.get(path, [])))]


def file_history(web, *rows):
    """A history of one file, "a", given by its lines with blanks between; None for no file."""
    return history_of(web, [{} if row is None else {"a": row.split()} for row in rows])


def long_history():
    """Forty versions with three elders each and rows of forty lines, most of them kept."""
    rows = [own_lines(40)]
    for version in range(1, 40):
        row = list(rows[-1])
        row[version * 7 % 40] = own_line(40 + version)
        rows.append(row[1:] + row[:1] if version % 5 == 0 else row)
    return history_of(dense_web(), [{"a": row, "b": row[:3]} for row in rows])


# Texts that may be handed in as paths and are in no tree.
NO_PATHS = ("", "A", "a b", "abcdefghi", "zz", "a1", " ", "\n", "a\n", "\t", "a=", "~", "-")


def text_sum_by_words(text):
    """[7.1] word by word."""
    number = 7
    for sign in text:
        if sign == "\n":
            own = 1
        elif sign == " ":
            own = 2
        elif sign.isdigit():
            own = 3 + int(sign)
        else:
            own = 13 + ord(sign) - ord("a")
        number = (number * 31 + own) % 1000003
    return number


def sum_by_words(elder_sums, tree):
    """[7.1] word by word: the sum of a version, of its elders' sums and its tree."""
    text = "".join(str(number) + " " for number in elder_sums) + "\n"
    for path, row in sorted(tree.items()):
        text += path + " " + str(len(row)) + "\n" + "".join(line + "\n" for line in row)
    return text_sum_by_words(text)


def sums_by_words(history):
    told = []
    for version, elders in enumerate(history.web()):
        told.append(sum_by_words([told[elder] for elder in elders], history.tree(version)))
    return told


def chains_by_words(web, depth):
    """[7.3] word by word."""
    told = []
    for elders in web:
        told.append(0 if not elders or told[elders[0]] + 1 > depth else told[elders[0]] + 1)
    return told


def deed_text(path, word, told):
    """[7.4]: the text of a file or of a deed of a change."""
    text = word + " " + path + " " + str(len(told)) + "\n"
    if word == "edit":
        return text + "".join({"put": "+", "take": "-"}[way] + str(place) + "=" + line + "\n"
                              for way, place, line in told)
    return text + "".join("=" + line + "\n" for line in told)


def packed_by_words(history, depth):
    """[7.4] word by word."""
    web, text = history.web(), "pack " + str(history.many()) + " " + str(depth) + "\n"
    whole, sums = [chain == 0 for chain in chains_by_words(web, depth)], sums_by_words(history)
    for version, elders in enumerate(web):
        tree = history.tree(version)
        text += "version " + (" ".join(str(elder) for elder in elders) or "-") + "\n"
        text += "whole\n" if whole[version] else "more\n"
        deeds = {path: ("file", row) for path, row in tree.items()}
        if not whole[version]:
            deeds = change(history.tree(elders[0]), tree)
        text += "".join(deed_text(path, *deeds[path]) for path in sorted(deeds))
        text += "sum " + str(sums[version]) + "\n"
    return text
