"""What of shared/LANGUAGE.md can be told by counting and by looking for words."""

import ast
import pathlib
import re
import unittest

from firstbore import plans

PACKAGE = pathlib.Path(plans.__file__).parent
BARRED = (
    "type typing typing_extensions enum Enum IntEnum StrEnum Flag IntFlag Generic Protocol ABC ABCMeta namedtuple "
    "NamedTuple TypedDict TYPE_CHECKING abstractmethod"
).split()


class Language(unittest.TestCase):
    def setUp(self):
        self.texts = {path.name: path.read_text() for path in sorted(PACKAGE.glob("*.py"))}

    def test_folder_contains_only_source(self):
        names = [path.name for path in PACKAGE.iterdir() if path.name != "__pycache__"]
        self.assertEqual(sorted(names), sorted(self.texts))

    def test_characters_and_sizes(self):
        for name, text in self.texts.items():
            with self.subTest(file=name):
                self.assertTrue(all(sign == "\n" or " " <= sign <= "~" for sign in text))
                lines = text.split("\n")
                self.assertLessEqual(len(lines), 399)
                self.assertLessEqual(max(len(line) for line in lines), 120)
                for node in ast.walk(ast.parse(text)):
                    if isinstance(node, ast.FunctionDef):
                        self.assertLessEqual(node.end_lineno - node.lineno + 1, 40, node.name)

    def test_barred_words(self):
        for name, text in self.texts.items():
            words = re.findall(r"\w+", text)
            for word in BARRED:
                self.assertNotIn(word, words, name)
            for part in ("dataclass", "overload", "contextmanager"):
                self.assertNotIn(part, text, name)

    def test_imports_are_from_modules_of_the_package(self):
        for name, text in self.texts.items():
            for node in ast.walk(ast.parse(text)):
                self.assertNotIsInstance(node, ast.Import, name)
                if isinstance(node, ast.ImportFrom):
                    self.assertEqual(node.level, 0, name)
                    self.assertTrue(node.module.startswith("firstbore."), name)


if __name__ == "__main__":
    unittest.main()
