"""The examples of the document, word for word: examples.txt has their rows, in their order."""

import pathlib
import unittest

from orderrings import asked, board, books, classes, desk, errors, judged, leaving, rings, runs, some, terms, texts, trees
from orderrings import waits, webs

EXAMPLES = pathlib.Path(__file__).with_name("examples.txt")
# A later section may use a name again: so each row is looked up in the files of the package alone.
FILES = (books, webs, runs, rings, classes, judged, leaving, trees, terms, some, waits, asked, board, texts, desk)


def raised(error):
    values = ", ".join(f"{name}={value!r}" for name, value in vars(error).items())
    return f"raises {type(error).__name__}({values})"


def rows_with_answers():
    lines = EXAMPLES.read_text(encoding="utf-8").splitlines()
    for at, line in enumerate(lines):
        if line.startswith(">>> "):
            following = lines[at + 1] if at + 1 < len(lines) else ">>> "
            yield line[4:], None if following.startswith(">>> ") else following


class Examples(unittest.TestCase):
    def test_all(self):
        world = {name: getattr(file, name) for file in FILES for name in dir(file) if name[0] != "_"}
        answered = 0
        for row, answer in rows_with_answers():
            with self.subTest(row=row):
                if answer is None:
                    exec(row, world)
                    continue
                answered += 1
                try:
                    told = repr(eval(row, world))
                except (LookupError, ValueError) as error:
                    self.assertEqual(type(error).__module__, errors.__name__)
                    told = raised(error)
                self.assertEqual(told, answer)
        self.assertEqual(answered, 106)


if __name__ == "__main__":
    unittest.main()
