"""The interface: each name is there, with its arguments."""

import importlib
import inspect
import unittest

INTERFACE = {
    "rows": {"is_row": "row"},
    "kept": {"kept": "old new", "ladder": "old new", "ladder_holds": "old new rungs"},
    "edits": {"edit": "old new", "is_edit": "deeds", "applied": "row deeds", "turned": "deeds",
              "behind": "first second"},
    "passing": {"passed": "first second"},
    "trees": {"is_tree": "tree"},
    "changes": {"is_change": "change", "change": "old new", "changed": "tree change", "turned_change": "change",
                "followed": "first second", "moves": "old new", "leads": "old new change"},
}


class Interface(unittest.TestCase):
    def test_names_and_arguments(self):
        for module, functions in INTERFACE.items():
            for name, arguments in functions.items():
                with self.subTest(module=module, name=name):
                    function = getattr(importlib.import_module("pasthall." + module), name)
                    self.assertEqual(list(inspect.signature(function).parameters), arguments.split())


if __name__ == "__main__":
    unittest.main()
