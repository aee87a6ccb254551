"""The shape of the package: its files."""

import os
import unittest

import homefrees

FOLDER = os.path.dirname(os.path.abspath(homefrees.__file__))


def names():
    return sorted(name for name in os.listdir(FOLDER) if name != "__pycache__")


def sources():
    for name in names():
        with open(os.path.join(FOLDER, name), encoding="ascii") as file:
            yield name, file.read()


class FileTests(unittest.TestCase):
    def test_package_is_one_folder_at_the_top_beside_the_tests(self):
        top = os.path.dirname(os.path.dirname(os.path.abspath(__file__)))
        self.assertEqual(FOLDER, os.path.join(top, "homefrees"))
        self.assertIn("__init__.py", names())

    def test_package_holds_nothing_but_python_files(self):
        for name in names():
            with self.subTest(name):
                self.assertRegex(name, r"\A[a-z0-9_]+\.py\Z")
                self.assertNotIn("test", name)

    def test_files_and_lines_are_short_enough(self):
        for name, text in sources():
            with self.subTest(name):
                lines = text.split("\n")
                self.assertLessEqual(len(lines), 400)
                self.assertLessEqual(max(len(line) for line in lines), 120)
                self.assertNotIn("\t", text)

    def test_imports_come_from_the_package_only(self):
        for name, text in sources():
            for line in text.split("\n"):
                if line.startswith(("import ", "from ")):
                    with self.subTest(name, line=line):
                        self.assertTrue(line.startswith("from homefrees."))


if __name__ == "__main__":
    unittest.main()
