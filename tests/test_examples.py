"""The worked examples of the document, just as they stand there."""

import doctest
import os
import unittest

HERE = os.path.dirname(os.path.abspath(__file__))
FOLDER = os.path.join(HERE, "examples")


class Examples(unittest.TestCase):
    def check(self, path):
        failed, tried = doctest.testfile(path, module_relative=False)
        self.assertGreater(tried, 0, path)
        self.assertEqual(failed, 0, path)

    def test_each_section(self):
        names = sorted(name for name in os.listdir(FOLDER) if name.endswith(".txt"))
        self.assertEqual(names, [f"section_{number:02d}.txt" for number in range(4, 4 + len(names))])
        self.assertEqual(len(names), 11)
        for name in names:
            self.check(os.path.join(FOLDER, name))

    def test_those_of_the_readme(self):
        with open(os.path.join(HERE, "..", "README.md"), encoding="ascii") as file:
            blocks = file.read().split("```")[1::2]
        page = doctest.DocTestParser().get_doctest("".join(blocks), {}, "README", "README.md", 0)
        self.assertEqual(doctest.DocTestRunner().run(page).failed, 0)


if __name__ == "__main__":
    unittest.main()
