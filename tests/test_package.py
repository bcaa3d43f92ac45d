"""Promise [1]: no clock, no chance, no files of the machine, and nothing that two objects have in common."""

import ast
import pathlib
import unittest

import pasthall

FOLDER = pathlib.Path(pasthall.__file__).parent
REACHING_OUT = ("open", "input", "print", "exec", "eval", "compile", "__import__", "globals", "vars", "getattr")


def drawn_from(tree):
    """The modules that a file draws from."""
    found = []
    for node in ast.walk(tree):
        if isinstance(node, ast.Import):
            found.extend(alias.name for alias in node.names)
        if isinstance(node, ast.ImportFrom):
            found.append("." * node.level + (node.module or ""))
    return found


class Package(unittest.TestCase):
    def trees(self):
        files = sorted(path for path in FOLDER.rglob("*.py") if path.name != "__main__.py")
        self.assertTrue(files)
        return [(path.name, ast.parse(path.read_text(encoding="ascii"))) for path in files]

    def test_only_the_packages_own_files_are_drawn_from(self):
        for name, tree in self.trees():
            for module in drawn_from(tree):
                self.assertEqual(module.split(".")[0], "pasthall", name)

    def test_no_name_that_reaches_out_is_used(self):
        for name, tree in self.trees():
            used = set(node.id for node in ast.walk(tree) if isinstance(node, ast.Name))
            self.assertEqual(used & set(REACHING_OUT), set(), name)

    def test_defaults_are_plain_values(self):
        # A list or a tuple as a default would be one for all calls.
        for name, tree in self.trees():
            for node in ast.walk(tree):
                if isinstance(node, ast.arguments):
                    for default in node.defaults + node.kw_defaults:
                        self.assertIsInstance(default, ast.Constant, name)


if __name__ == "__main__":
    unittest.main()
