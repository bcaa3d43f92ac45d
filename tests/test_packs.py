"""Packs read, promise [7.5], and [1] of them."""

import unittest

from pasthall.errors import BadText
from pasthall.histories import History
from pasthall.packing import packed
from pasthall.packs import unpacked
from tests.helpers import (chances, check_refused, dense_web, full_tree, history_of, line_web, long_history,
                           own_lines, packed_by_words, shown, some_history, some_tree, some_web, spoil, sum_by_words)

# Signs that a text may have: those of packs, and some that no pack has.
SIGNS = "\n 019azq=+-sA~\t$"


def sample():
    """A history with each kind of deed, none to two elders, and a version whose tree is its first elder's."""
    return history_of([(), (0,), (), (1, 2), (3,)],
                      [{"a": ["p"], "b": ["x", "y"], "c": [], "e": ["q"]},
                       {"b": ["y", "z"], "d": ["", "n"], "e": ["q"], "f": []},
                       {}, {"b": ["y", "z"], "d": ["n"], "e": ["q"], "f": []},
                       {"b": ["y", "z"], "d": ["n"], "e": ["q"], "f": []}])


def text_of(*lines):
    return "".join(line + "\n" for line in lines)


def one_version(tree, *lines):
    """The text of one version with the lines for its files as given, and the sum that its tree would have."""
    return text_of("pack 1 0", "version -", "whole", *lines, f"sum {sum_by_words([], tree)}")


def two_versions(old, new, *lines, way="more", depth=1):
    """The text of a version and one made of it, with the lines for its files or deeds as given; the sums are right."""
    first = sum_by_words([], old)
    files = []
    for path, row in sorted(old.items()):
        files.extend([f"file {path} {len(row)}"] + ["=" + line for line in row])
    return text_of(f"pack 2 {depth}", "version -", "whole", *files, f"sum {first}", "version 0", way, *lines,
                   f"sum {sum_by_words([first], new)}")


class ReadBack(unittest.TestCase):
    def check_back(self, history, depth):
        told = unpacked(packed_by_words(history, depth))
        self.assertIs(type(told), History)
        self.assertEqual(shown(told), shown(history))
        self.assertEqual(packed(told, depth), packed_by_words(history, depth))

    def test_each_depth(self):
        for depth in range(10):
            self.check_back(sample(), depth)
            self.check_back(history_of(line_web(12), [{"a": own_lines(many)} for many in range(12)]), depth)

    def test_the_least_history(self):
        self.check_back(history_of([()], [{}]), 0)
        self.check_back(history_of([()], [{}]), 9)
        self.check_back(history_of([()], [{"a": []}]), 4)
        self.check_back(history_of([()], [{"sum": ["sum", "more"], "file": ["whole"], "pack": []}]), 4)

    def test_up_to_three_elders(self):
        for depth in (0, 1, 9):
            self.check_back(history_of([(), (0,), (0, 1), (0, 1, 2), (1, 3), ()], [{"a": ["x"]}, {}] * 3), depth)

    def test_by_chance(self):
        for chance in chances(120, 40):
            self.check_back(some_history(chance, 12), chance.randrange(10))
            web = some_web(chance, 6)
            self.check_back(history_of(web, [some_tree(chance) for version in web]), chance.randrange(10))

    def test_great_histories(self):
        for history in (history_of(dense_web(), [full_tree()] * 40), long_history(),
                        history_of(line_web(40), [full_tree(), {}] * 20)):
            for depth in (0, 9):
                self.check_back(history, depth)

    def test_places_of_two_figures(self):
        rows = (own_lines(40), own_lines(38) + ["z", "y"], [], own_lines(40), [""] * 40, [""] * 39 + ["z"])
        for depth in (0, 1, 9):
            self.check_back(history_of(line_web(6), [{"a": row, "b": row[::-1]} for row in rows]), depth)


class Refused(unittest.TestCase):
    def check_refused(self, *texts):
        for text in texts:
            check_refused(self, BadText, unpacked, text)

    def test_the_crafted_texts_would_be_read(self):
        # The texts below differ from these in one thing alone.
        self.assertEqual(shown(unpacked(one_version({"a": ["x"]}, "file a 1", "=x"))), (1, [()], [{"a": ["x"]}]))
        old, new = {"a": ["x"]}, {"a": ["x", "y"]}
        self.assertEqual(shown(unpacked(two_versions(old, new, "edit a 1", "+1=y"))), (2, [(), (0,)], [old, new]))
        whole = two_versions(old, new, "file a 2", "=x", "=y", way="whole", depth=0)
        self.assertEqual(shown(unpacked(whole)), (2, [(), (0,)], [old, new]))

    def test_texts_that_are_none(self):
        self.check_refused("", "\n", " ", "pack", "pack\n", "pack 1 0", "pack 1 0\n", "abc", "-", "\n\n\n", "whole\n",
                           "sum 218\n", "version -\nwhole\nsum 218\n", "~~~", "\t", "a\tb\n", "pack 1 0\n\n", "$ & @\n")

    def test_sums_that_are_others(self):
        text = packed(sample(), 2)
        for line in set(line for line in text.split("\n") if line.startswith("sum ")):
            number = int(line[4:])
            for other in (f"sum {number + 1}", f"sum {number - 1}", "sum 0", "sum 7", f"sum -{number}", "sum", "sum ",
                          f"sum {number + 1000003}", f"sum 0{number}", f"sum {number} ", f"sum  {number}",
                          f"sum {number} {number}", f"sum +{number}", "sum a", f"Sum {number}", "sum " + "1" * 5000):
                self.check_refused(text.replace(line + "\n", other + "\n", 1))

    def test_counts_that_are_others(self):
        text = packed(sample(), 2)
        for line in set(text.split("\n")):
            words = line.split(" ")
            if words[0] in ("file", "new", "gone", "edit"):
                many = int(words[2])
                for other in (many + 1, many - 1, -many - 1, f"0{many}", f"{many} ", "", "a", f"+{many}", f"{many}.0",
                              "40", "41", "9" * 5000):
                    self.check_refused(text.replace(line, f"{words[0]} {words[1]} {other}", 1))

    def test_each_line_left_out_or_twice(self):
        for depth in (0, 1, 2, 9):
            lines = packed(sample(), depth).split("\n")[:-1]
            for place, line in enumerate(lines):
                self.check_refused(text_of(*lines[:place], *lines[place + 1:]))
                self.check_refused(text_of(*lines[:place], line, *lines[place:]))

    def test_lines_changed_about(self):
        for depth in (0, 2):
            lines = packed(sample(), depth).split("\n")[:-1]
            for place in range(len(lines)):
                for later in range(place + 1, len(lines)):
                    if lines[place] != lines[later]:
                        other = list(lines)
                        other[place], other[later] = other[later], other[place]
                        self.check_refused(text_of(*other))

    def test_lines_put_in_and_put_otherwise(self):
        lines = packed(sample(), 2).split("\n")[:-1]
        known = sorted(set(lines)) + ["", " ", "=", "+0=a", "-0=a", "file z 0", "new z 0", "gone z 0", "edit z 0",
                                      "edit b 0", "sum 218", "version -", "version 0", "pack 5 2", "end", "= ", "file"]
        for place in range(len(lines) + 1):
            for other in known:
                self.check_refused(text_of(*lines[:place], other, *lines[place:]))
                if place < len(lines) and other != lines[place]:
                    self.check_refused(text_of(*lines[:place], other, *lines[place + 1:]))

    def test_each_sign_left_out_put_in_or_put_otherwise(self):
        for depth in (0, 9):
            text = packed(history_of([(), (0,)], [{"a": ["x"], "b": []}, {"a": ["x", "y"], "c": ["z"]}]), depth)
            for place in range(len(text) + 1):
                self.check_refused(text[:place] + text[place + 1:] if place < len(text) else text + "\n")
                for sign in SIGNS:
                    self.check_refused(text[:place] + sign + text[place:])
                    other = text[:place] + sign + text[place + 1:]
                    if other.startswith("pack 2 1\n") and depth == 9:
                        # With this depth two versions are packed as with nine.
                        self.assertEqual(packed(unpacked(other), 1), other)
                    elif place < len(text) and sign != text[place]:
                        self.check_refused(other)

    def test_needless_noughts(self):
        history = history_of([(), (0,)], [{"a": ["x"]}, {"a": ["y", "x"]}])
        text = packed(history, 1)
        for line, other in (("pack 2 1", "pack 02 1"), ("pack 2 1", "pack 2 01"), ("version 0", "version 00"),
                            ("file a 1", "file a 01"), ("edit a 1", "edit a 01"), ("+0=y", "+00=y")):
            self.assertIn(line + "\n", text)
            self.check_refused(text.replace(line + "\n", other + "\n"))

    def test_a_blank_or_a_sign_more(self):
        lines = packed(sample(), 2).split("\n")[:-1]
        for place, line in enumerate(lines):
            for other in (line + " ", " " + line, line.replace(" ", "  "), line + "\t", line + "=", line + "0",
                          line + "-", line.replace(" ", "\t"), line.upper(), line + "~"):
                if other != line:
                    self.check_refused(text_of(*lines[:place], other, *lines[place + 1:]))

    def test_the_end(self):
        for depth in (0, 9):
            text = packed(sample(), depth)
            self.check_refused(text[:-1], text + "\n", text + " ", text + "a", text + "sum 218\n", text + text,
                               "\n" + text, " " + text, text + "version -\nwhole\nsum 218\n", text + "pack 1 0\n")
            for many in range(0, len(text), 7):
                self.check_refused(text[:many])

    def test_elders_that_are_none(self):
        text = text_of("pack 3 0", "version -", "whole", "sum 218")
        told = [218, sum_by_words([218], {}), sum_by_words([218, 218], {})]
        good = text + text_of("version 0", "whole", f"sum {told[1]}", "version -", "whole", "sum 218")
        self.assertEqual(unpacked(good).web(), [(), (0,), ()])
        for other in ("version 1", "version 2", "version 100", "version -1", "version 0 0", "version 0 1", "version",
                      "version ", "version 0 -", "version - 0", "version - -", "version --", "version a", "version +0",
                      "version 0,", "version 0 1 2 3", "version " + "9" * 5000, "version 0 ", "versions 0", "0"):
            self.check_refused(good.replace("version 0", other))
        lines = ["version -", "whole", "sum 218"] * 4
        for elders in ((1, 0), (0, 0), (0, 1, 1), (0, 1, 2, 3), (0, 4), (4,), (2, 1, 0), (0, 100)):
            number = sum_by_words([218] * len(elders), {})
            last = "version " + " ".join(str(elder) for elder in elders)
            for way, depth in (("whole", 0), ("more", 1)):
                self.check_refused(text_of(f"pack 5 {depth}", *lines, last, way, f"sum {number}"))

    def test_no_versions_and_forty_one(self):
        for depth in (0, 5):
            self.check_refused(text_of(f"pack 0 {depth}"))
            lines = ["version -", "whole", "sum 218"]
            self.assertEqual(unpacked(text_of(f"pack 40 {depth}", *lines * 40)).many(), 40)
            self.check_refused(text_of(f"pack 41 {depth}", *lines * 41), text_of(f"pack 41 {depth}", *lines * 40),
                               text_of(f"pack 39 {depth}", *lines * 40), text_of(f"pack 40 {depth}", *lines * 39),
                               text_of(f"pack 40 {depth}", *lines * 41), text_of(f"pack 0 {depth}", *lines),
                               text_of(f"pack 1000 {depth}", *lines * 1000), text_of(f"pack -1 {depth}", *lines))
            self.check_refused(text_of("pack " + "1" * 5000 + f" {depth}", *lines))

    def test_depths_that_are_none(self):
        lines = ["version -", "whole", "sum 218"]
        for depth in range(10):
            self.assertEqual(unpacked(text_of(f"pack 1 {depth}", *lines)).many(), 1)
        for depth in ("10", "11", "99", "-1", "", "a", "00", "01", "1 ", "0 0", "9" * 5000, "+1", "1.0"):
            self.check_refused(text_of(f"pack 1 {depth}", *lines))
        self.check_refused(packed(sample(), 10), packed(sample(), -1))

    def test_the_wrong_one_of_whole_and_change(self):
        old, new = {"a": ["x"]}, {"a": ["x", "y"]}
        files, deeds = ("file a 2", "=x", "=y"), ("edit a 1", "+1=y")
        for depth in range(1, 10):
            self.assertEqual(unpacked(two_versions(old, new, *deeds, depth=depth)).tree(1), new)
            self.check_refused(two_versions(old, new, *files, way="whole", depth=depth))
        self.check_refused(two_versions(old, new, *deeds, depth=0))
        for way, lines in (("more", files), ("whole", deeds), ("", deeds), ("More", deeds), ("more ", deeds),
                           ("less", deeds), ("mor", deeds), ("all", files), ("", files)):
            for depth in (0, 1):
                self.check_refused(two_versions(old, new, *lines, way=way, depth=depth))
        self.check_refused(text_of("pack 1 1", "version -", "more", "sum 218"))
        number = sum_by_words([], {"a": []})
        self.check_refused(text_of("pack 1 1", "version -", "more", "new a 0", f"sum {number}"))
        self.check_refused(text_of("pack 1 1", "version -", "more", "file a 0", f"sum {number}"))

    def test_paths_that_do_not_rise_or_stand_twice(self):
        tree = {"a": ["x"], "b": []}
        good = ("file a 1", "=x", "file b 0")
        self.assertEqual(unpacked(one_version(tree, *good)).tree(0), tree)
        self.check_refused(one_version(tree, "file b 0", "file a 1", "=x"),
                           one_version(tree, *good, "file b 0"), one_version(tree, "file a 1", "=x", *good),
                           one_version(tree, "file a 0", *good), one_version(tree, "file b 1", "=", *good))
        new = {"a": ["x", "y"], "c": []}
        deeds = ("edit a 1", "+1=y", "gone b 0", "new c 0")
        self.assertEqual(unpacked(two_versions(tree, new, *deeds)).tree(1), new)
        self.check_refused(two_versions(tree, new, *deeds[2:], *deeds[:2]), two_versions(tree, new, *deeds, deeds[3]),
                           two_versions(tree, new, *deeds[:2], *deeds),
                           two_versions(tree, new, *deeds[:2], deeds[3], deeds[2]))

    def test_what_is_no_path(self):
        for path in ("A", "abcdefghi", "a1", "a=", "+", "-", "a\t", "\t", "~", "1", "A" * 100):
            self.check_refused(text_of("pack 1 0", "version -", "whole", f"file {path} 0", "sum 218"))
            for word in ("new", "gone", "edit"):
                self.check_refused(two_versions({}, {}, f"{word} {path} 0"))
                self.check_refused(two_versions({}, {}, f"{word} {path} 1", "=x"))
        for tree in ({"": []}, {"abcdefghi": []}, {"a a": []}):
            path = list(tree)[0]
            self.check_refused(one_version(tree, f"file {path} 0"))
            self.check_refused(two_versions({}, tree, f"new {path} 0"))

    def test_what_is_no_row(self):
        for line in ("abcdefghi", "a b", "a1", " ", "1"):
            self.check_refused(one_version({"a": [line]}, "file a 1", "=" + line))
            self.check_refused(two_versions({}, {"a": [line]}, "new a 1", "=" + line))
            self.check_refused(two_versions({"a": []}, {"a": [line]}, "edit a 1", "+0=" + line))
        for line in ("A", "=", "a=", "~", "\t", "a-"):
            self.check_refused(text_of("pack 1 0", "version -", "whole", "file a 1", "=" + line, "sum 218"))
            self.check_refused(two_versions({}, {"a": []}, "new a 1", "=" + line))
        for line in ("x", "", "+0=x", " =x", "-x"):
            self.check_refused(one_version({"a": ["x"]}, "file a 1", line))
        row = own_lines(41)
        lines = ["=" + line for line in row]
        self.assertEqual(unpacked(one_version({"a": row[:40]}, "file a 40", *lines[:40])).tree(0), {"a": row[:40]})
        self.check_refused(one_version({"a": row}, "file a 41", *lines))
        self.check_refused(two_versions({}, {"a": row}, "new a 41", *lines))
        self.check_refused(two_versions({"a": row[:40]}, {"a": row}, "edit a 1", "+40=" + row[40]))

    def test_what_is_no_tree(self):
        tree = {path: [] for path in "abcdefghi"}
        lines = [f"file {path} 0" for path in tree]
        eight = {path: [] for path in "abcdefgh"}
        self.assertEqual(unpacked(one_version(eight, *lines[:8])).tree(0), eight)
        self.check_refused(one_version(tree, *lines))
        self.check_refused(two_versions(eight, tree, "new i 0"))
        self.check_refused(two_versions({}, tree, *[f"new {path} 0" for path in tree]))

    def test_what_is_no_edit(self):
        old, new = {"a": ["x"]}, {"a": ["y", "z"]}
        good = ("edit a 3", "-0=x", "+1=y", "+1=z")
        self.assertEqual(unpacked(two_versions(old, new, *good)).tree(1), new)
        for deeds in (("+0=y", "+0=z", "-0=x"), ("+1=y", "+1=z", "-0=x"), ("+1=z", "+1=y", "-0=x"),
                      ("-0=x", "+0=y", "+0=z"), ("-0=x", "+1=z", "+1=y"), ("-0=x", "+1=y", "+2=z"),
                      ("-0=x", "+1=y", "*1=z"), ("-0=x", "+1=y", "1=z"), ("-0=x", "+1=y", "+=z"),
                      ("-0=x", "+1=y", "+1z"), ("-0=x", "+1=y", "+ 1=z"), ("-0=x", "+1=y", "+1 =z"),
                      ("-0=x", "+1=y", "+a=z"), ("-0=x", "+1=y", ""), ("-0=x", "+1=y", "="), ("-0=x", "+1=y", "+"),
                      ("-0=x", "+1=y", "+-1=z"), ("-0=x", "+1=y", "+1==z"), ("-0=x", "+1=y", "++1=z"),
                      ("-0=x", "+1=y", "+" + "1" * 5000 + "=z"), ("-0=x", "-0=x", "+1=y"), ("-1=x", "+1=y", "+1=z"),
                      ("-0=y", "+1=y", "+1=z"), ("-0=", "+1=y", "+1=z"), ("-9=x", "+1=y", "+1=z"),
                      ("-0=x", "+41=y", "+41=z"), ("-0=x", "+2=y", "+2=z")):
            self.check_refused(two_versions(old, new, "edit a 3", *deeds))
        self.check_refused(two_versions(old, old, "edit a 0"))
        self.check_refused(two_versions(old, old, "edit a 2", "-0=x", "+1=x"))

    def test_an_edit_that_is_not_the_one_of_the_two_rows(self):
        # Each of these leads to the new row.
        for old, new, told, others in ((["x"], ["x", "x"], ["+1=x"], (["+0=x"], ["-0=x", "+1=x", "+1=x"])),
                                       (["x", "x"], ["x"], ["-1=x"], (["-0=x"],)),
                                       (["x", "y"], ["y", "x"], ["+0=y", "-1=y"], (["-0=x", "+2=x"],)),
                                       (["x"], ["y"], ["-0=x", "+1=y"], (["+0=y", "-0=x"],)),
                                       (["x", "y"], ["z", "y"], ["-0=x", "+1=z"], (["+0=z", "-0=x"],))):
            old, new = {"a": old}, {"a": new}
            good = two_versions(old, new, f"edit a {len(told)}", *told)
            self.assertEqual(unpacked(good).tree(1), new)
            for deeds in others:
                self.check_refused(two_versions(old, new, f"edit a {len(deeds)}", *deeds))

    def test_a_change_that_is_not_the_one_of_the_two_trees(self):
        old, new = {"a": ["x"], "b": ["y"]}, {"a": ["z"], "b": ["y"]}
        good = ("edit a 2", "-0=x", "+1=z")
        self.assertEqual(unpacked(two_versions(old, new, *good)).tree(1), new)
        self.check_refused(two_versions(old, new, "gone a 1", "=x", "new a 1", "=z"),
                           two_versions(old, new, "new a 1", "=z"), two_versions(old, new, "file a 1", "=z"),
                           two_versions(old, new, *good, "edit b 2", "-0=y", "+1=y"),
                           two_versions(old, new, *good, "edit b 0"), two_versions(old, new, *good, "file b 1", "=y"))

    def test_a_change_that_does_not_fit(self):
        old, new = {"a": ["x"]}, {}
        self.assertEqual(unpacked(two_versions(old, new, "gone a 1", "=x")).tree(1), new)
        self.check_refused(two_versions(old, new, "gone a 1", "=y"), two_versions(old, new, "gone a 0"),
                           two_versions(old, new, "gone b 1", "=x"), two_versions(old, new, "gone a 2", "=x", "=x"),
                           two_versions(old, new), two_versions(old, old, "new a 1", "=x"),
                           two_versions(old, old, "gone b 0"), two_versions(old, old, "edit b 1", "+0=x"),
                           two_versions(old, {"a": []}, "edit a 1", "-0=y"), two_versions(old, old, "new a 0"))

    def test_words_that_are_none(self):
        tree = {"a": ["x"]}
        for word in ("File", "files", "fil", "", "new", "gone", "edit", "sum", "=", "version", "take", "put"):
            self.check_refused(one_version(tree, f"{word} a 1", "=x"))
            if word != "new":
                self.check_refused(two_versions({}, tree, f"{word} a 1", "=x"))
        for line in ("file a", "file 1", "file", "file a 1 1", "filea 1", "file  a 1", "file a  1", "file a 1 "):
            self.check_refused(one_version(tree, line, "=x"))
        self.check_refused(one_version(tree, "edit a 1", "+0=x"), one_version(tree, "new a 1", "=x"))
        for line in ("pack", "pack 1", "pack 1 0 0", "Pack 1 0", "packs 1 0", " pack 1 0", "pack  1 0", "1 0",
                     "pack 0"):
            self.check_refused(text_of(line, "version -", "whole", "sum 218"))

    def test_texts_by_chance(self):
        words = ["pack", "version", "whole", "more", "file", "new", "gone", "edit", "sum", " ", "\n", "=", "+", "-",
                 "0", "1", "2", "a", "b", "abcdefghi", "218", "\t", "~"]
        for chance in chances(121, 3000):
            self.check_refused("".join(chance.choice(words) for turn in range(chance.randint(0, 40))))

    def test_packs_changed_by_chance(self):
        for chance in chances(122, 150):
            depth = chance.randrange(10)
            text = packed(some_history(chance, 6), depth)
            for turn in range(6):
                place = chance.randrange(8, len(text))
                many = chance.choice((1, 1, 2, 9))
                other = text[:place] + chance.choice(SIGNS) * chance.randrange(2) + text[place + many:]
                if other != text:
                    self.check_refused(other)


class Own(unittest.TestCase):
    def test_each_history_is_its_own(self):
        text = packed(sample(), 2)
        one, other = unpacked(text), unpacked(text)
        one.put_version((4,), {"z": []})
        spoil(one.tree(0))
        spoil(one.web())
        self.assertEqual(shown(other), shown(sample()))
        self.assertEqual(shown(unpacked(text)), shown(sample()))
        self.assertEqual(one.many(), 6)
        self.assertEqual(other.put_version((0, 4), {}), 5)

    def test_versions_with_one_tree_have_each_their_own(self):
        history = unpacked(packed(history_of(line_web(3), [{"a": ["x"]}] * 3), 9))
        spoil(history.tree(0))
        self.assertEqual([history.tree(version) for version in range(3)], [{"a": ["x"]}] * 3)


if __name__ == "__main__":
    unittest.main()
