"""What the language rules say of the package's files, as far as it can be counted."""

import ast
import os
import unittest

TOP = os.path.dirname(os.path.dirname(os.path.abspath(__file__)))
PACKAGE = os.path.join(TOP, "allitreaches")

INTERFACE = {
    "errors": """ReachError BadPoint BadBox BadPart BadStock BadTool BadTools BadCell BadCells NoLot NoScene BadNumber
        NotFree BadRow BadProgram BadLine NoMachine Cuts Meets NoTool NotOutside BadDrawing NothingToUndo NothingToRedo
        NoBlock BadJournal BadTask BadBoxes TooFar NoDrawing NoFence BadPath BadMoves Stopped Askew BadCorner""",
    "points": "point_text read_point",
    "boxes": "box_text clash grown hull moved read_box volume where",
}

LIBRARY = {
    "heapq": "heappush heappop heapify heapreplace heappushpop",
    "math": "gcd lcm isqrt comb perm factorial",
    "itertools": "product combinations permutations chain accumulate pairwise islice zip_longest",
    "collections": "defaultdict deque",
}

BUILTINS = """len range enumerate zip min max sum abs sorted reversed int str bool bytes list tuple dict set frozenset
    isinstance ord repr any all divmod pow getattr hasattr setattr iter next map type super property staticmethod
    classmethod Exception ValueError TypeError KeyError IndexError LookupError ZeroDivisionError ArithmeticError
    OverflowError RuntimeError NotImplementedError AttributeError StopIteration NotImplemented""".split()

BARRED = (ast.Global, ast.AsyncFunctionDef, ast.AsyncFor, ast.AsyncWith, ast.Await, ast.Div)


def sources():
    """The package's files, by their names without the ending."""
    found = {}
    for name in sorted(os.listdir(PACKAGE)):
        if name != "__pycache__":
            with open(os.path.join(PACKAGE, name), encoding="ascii", newline="") as file:
                found[name] = file.read()
    return found


def trees():
    return {name.removesuffix(".py"): ast.parse(text) for name, text in sources().items()}


def defined(tree):
    """The names of the functions and classes at module level."""
    return [node.name for node in tree.body if isinstance(node, (ast.FunctionDef, ast.ClassDef))]


class Form(unittest.TestCase):
    def test_files_and_characters(self):
        self.assertIn("__init__.py", sources())
        for name, text in sources().items():
            self.assertRegex(name, r"^[a-z_][a-z0-9_]*\.py$")
            self.assertRegex(text, r"^[ -~\n]*$", name)
            lines = text.split("\n")
            self.assertLessEqual(len(lines), 400, name)
            self.assertLessEqual(max(len(line) for line in lines), 120, name)

    def test_functions_are_short(self):
        for name, tree in trees().items():
            for node in ast.walk(tree):
                if isinstance(node, ast.FunctionDef):
                    self.assertLessEqual(node.end_lineno - node.lineno + 1, 40, (name, node.name))

    def test_imports_name_the_file_that_defines(self):
        known = trees()
        for name, tree in known.items():
            for node in ast.walk(tree):
                self.assertNotIsInstance(node, ast.Import, name)
                if isinstance(node, ast.ImportFrom):
                    self.assertIn(node, tree.body)
                    self.assertEqual(node.level, 0)
                    package, _, file = node.module.partition(".")
                    names = defined(known[file]) if package == "allitreaches" else LIBRARY[node.module].split()
                    self.assertLessEqual({word.name for word in node.names}, set(names), (name, node.module))
                    self.assertEqual({word.asname for word in node.names}, {None})

    def test_only_some_builtins(self):
        import builtins
        for name, tree in trees().items():
            for node in ast.walk(tree):
                if isinstance(node, ast.Name) and node.id != "_" and hasattr(builtins, node.id):
                    self.assertIsInstance(node.ctx, ast.Load, (name, node.id))
                    self.assertIn(node.id, BUILTINS, name)

    def test_nothing_barred(self):
        for name, tree in trees().items():
            for node in ast.walk(tree):
                self.assertNotIsInstance(node, BARRED, name)
                if isinstance(node, ast.Constant):
                    self.assertNotIsInstance(node.value, (float, complex), name)
                if isinstance(node, (ast.FunctionDef, ast.ClassDef, ast.arg)):
                    self.assertNotIn(getattr(node, "name", getattr(node, "arg", None)), BUILTINS, name)

    def test_the_interface_is_defined_where_it_is_listed(self):
        known = trees()
        for file, names in INTERFACE.items():
            self.assertLessEqual(set(names.split()), set(defined(known[file])), file)


if __name__ == "__main__":
    unittest.main()
