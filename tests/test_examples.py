"""Every example of the sections that have landed, as it stands in the document."""

import importlib
import unittest

from tests.support import read_examples, run_example

MODULES = ("errors", "looks", "steps", "machines", "camps", "games", "together", "windows", "owners",
           "spare", "runs", "stubborn", "say", "told", "within", "late", "shares", "pieces", "plans",
           "planlines", "papers", "board", "desk")
SECTIONS = ("section_04.txt", "section_05.txt", "section_06.txt", "section_07.txt", "section_08.txt", "section_09.txt",
            "section_10.txt", "section_11.txt", "section_12.txt", "section_13.txt", "section_14.txt",
            "section_15.txt", "section_16.txt", "section_17.txt", "section_18.txt", "section_19.txt", "section_20.txt",
            "section_21.txt", "section_22.txt", "section_23.txt", "section_24.txt")


def all_names():
    """Return a dict of all names of the modules of the interface."""
    space = {}
    for name in MODULES:
        module = importlib.import_module("nearercamps." + name)
        own = {key: value for key, value in vars(module).items() if getattr(value, "__module__", "") == module.__name__}
        space.update(own)
    return space


class Examples(unittest.TestCase):
    def test_each_line_gives_what_stands_below_it(self):
        space = all_names()
        for section in SECTIONS:
            for code, expected in read_examples(section):
                with self.subTest(section=section, code=code):
                    self.assertEqual(run_example(code, space), expected)

    def test_no_example_is_left_out(self):
        counts = [len(read_examples(section)) for section in SECTIONS]
        self.assertEqual(counts, [7, 10, 7, 10, 10, 9, 9, 8, 10, 7, 11, 7, 8, 7, 8, 6, 12, 10, 9, 8, 4])


if __name__ == "__main__":
    unittest.main()
