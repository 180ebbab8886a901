"""Limits that hold for each file of the package, and where its functions are defined."""

import ast
import unittest
from pathlib import Path

from nobodystays import covers, groups, roamers, seats, sharps, singles, stays, turntexts

PACKAGE = Path(groups.__file__).parent
INTERFACE = {
    groups: (
        "is_house", "is_member", "is_transitive", "members", "parts", "likes", "order", "rank", "made",
    ),
    stays: ("stayers", "rings", "table"),
    roamers: (
        "roamers", "plain_roamers", "count_roamers", "spare", "least_roamer", "has_fewest", "is_sharp",
    ),
    singles: ("surplus", "is_single", "core", "core_is_group"),
    covers: ("is_within", "count_covered", "uncovered", "shows_uncovered"),
    sharps: ("sharp_house", "shows_sharp"),
    seats: ("Seats",),
    turntexts: ("write_house", "read_house"),
}


def sources():
    """The paths and texts of the package's files."""
    return [(path, path.read_text(encoding="utf-8")) for path in sorted(PACKAGE.glob("*.py"))]


class Sources(unittest.TestCase):
    def test_interface_is_defined_in_its_files(self):
        for module, names in INTERFACE.items():
            for name in names:
                with self.subTest(name):
                    self.assertEqual(getattr(module, name).__module__, module.__name__)

    def test_characters_and_lengths(self):
        for path, text in sources():
            with self.subTest(path.name):
                self.assertTrue(all(sign == "\n" or " " <= sign <= "~" for sign in text))
                lines = text.split("\n")
                self.assertLessEqual(len(lines), 400)
                self.assertLessEqual(max(len(line) for line in lines), 120)

    def test_functions_have_at_most_forty_lines(self):
        for path, text in sources():
            for node in ast.walk(ast.parse(text)):
                if isinstance(node, ast.FunctionDef):
                    with self.subTest(file=path.name, function=node.name):
                        self.assertLessEqual(node.end_lineno - node.lineno + 1, 40)

    def test_imports_are_from_the_package(self):
        for path, text in sources():
            for node in ast.walk(ast.parse(text)):
                with self.subTest(path.name):
                    self.assertNotIsInstance(node, ast.Import)
                    if isinstance(node, ast.ImportFrom):
                        self.assertEqual(node.level, 0)
                        self.assertTrue(node.module.startswith("nobodystays."))


if __name__ == "__main__":
    unittest.main()
