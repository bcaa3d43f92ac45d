"""The interface: each name is there, with its arguments."""

import importlib
import inspect
import unittest

INTERFACE = {
    "rows": {"is_row": "row"},
    "kept": {"kept": "old new", "ladder": "old new", "ladder_holds": "old new rungs"},
    "edits": {"edit": "old new", "is_edit": "deeds", "applied": "row deeds", "turned": "deeds",
              "behind": "first second"},
    "passing": {"passed": "first second"},
    "trees": {"is_tree": "tree"},
    "changes": {"is_change": "change", "change": "old new", "changed": "tree change", "turned_change": "change",
                "followed": "first second", "moves": "old new", "leads": "old new change"},
    "webs": {"is_web": "web", "above": "web version", "below": "web version", "between": "web one other",
             "ends": "web"},
    "commons": {"latest_common": "web some", "common_paper": "web some", "common_holds": "web some paper"},
    "ways": {"ways": "web one other", "must_pass": "web one other", "first_way": "web one other"},
    "histories": {"History": ""},
    "pieces": {"pieces": "base one other", "sides": "told", "pieces_hold": "base one other told"},
    "merging": {"merged": "told", "settled": "told picks"},
    "treemerge": {"merged_trees": "base one other", "common_tree": "history some",
                  "merged_versions": "history one other"},
    "undoing": {"undone": "history head version elder"},
    "asking": {"suspects": "web bad goods", "fewest": "web bad goods", "plan": "web bad goods",
               "plan_holds": "web bad goods plan", "led": "plan answers", "length": "plan"},
    "bound": {"contrary": "web bad goods many", "contrary_holds": "web bad goods many table"},
    "whence": {"whence": "history version path", "chain": "history version path place",
               "chain_holds": "history path told"},
    "lives": {"lives": "history version path place"},
    "sums": {"text_sum": "text", "sums": "history", "sum_paper": "history version", "sum_holds": "number paper",
             "lacks": "history numbers"},
    "packing": {"packed": "history depth", "chains": "web depth"},
    "packs": {"unpacked": "text"},
    "store": {"Store": ""},
}

METHODS = {
    ("histories", "History"): {"many": "", "web": "", "put_version": "elders tree", "tree": "version"},
    ("store", "Store"): {"names": "", "version": "name", "history": "", "state": "", "came_of": "",
                         "begin": "name tree", "save": "name tree", "fork": "name other", "drop": "name",
                         "join": "name other", "undo": "", "redo": "number"},
}


class Interface(unittest.TestCase):
    def check_arguments(self, called, arguments):
        self.assertEqual(list(inspect.signature(called).parameters), arguments.split())

    def test_names_and_arguments(self):
        for module, functions in INTERFACE.items():
            for name, arguments in functions.items():
                with self.subTest(module=module, name=name):
                    self.check_arguments(getattr(importlib.import_module("pasthall." + module), name), arguments)

    def test_methods_and_arguments(self):
        for (module, name), methods in METHODS.items():
            made = getattr(importlib.import_module("pasthall." + module), name)()
            for method, arguments in methods.items():
                with self.subTest(name=name, method=method):
                    self.check_arguments(getattr(made, method), arguments)


if __name__ == "__main__":
    unittest.main()
