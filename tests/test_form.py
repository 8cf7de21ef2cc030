"""What the language rules say of the package's files, as far as it can be counted."""

import ast
import os
import unittest

TOP = os.path.dirname(os.path.dirname(os.path.abspath(__file__)))
PACKAGE = os.path.join(TOP, "allitreaches")

INTERFACE = {
    "errors": """ReachError BadPoint BadBox BadPart BadStock BadTool BadTools BadCell BadCells NoLot NoScene BadNumber
        NotFree BadRow BadProgram BadLine NoMachine Cuts Meets NoTool NotOutside BadDrawing NothingToUndo NothingToRedo
        NoBlock BadJournal BadTask BadBoxes TooFar NoDrawing NoFence BadPath BadMoves Stopped Askew BadCorner""",
    "points": "point_text read_point",
    "boxes": "box_text clash grown hull moved read_box volume where",
    "cells": "cell_of sample touches",
    "lots": "Lot lot_of_boxes meeting swept within_boxes",
    "places": "can_stand free meets outside reach room Scene",
    "ways": "fence shows_fence shows_way way",
    "moves": "clear first_met shows_first_met",
    "taking": "behind shows_takes stages taken takes",
    "rounds": "fewest lacks least rounds shows_fewest stands_behind",
    "paths": "path shows_path walked",
    "programs": "program_text read_program",
    "machine": "halved Machine",
    "making": "program_of shows_program_of",
    "fits": "by_holders fits needed rest undercuts",
    "drawings": "drawing_text Drawing exchanged layer mirrored",
    "benches": "Bench",
    "journals": "journal read_journal",
    "desk": "Desk",
}

METHODS = {
    ("lots", "Lot"): "has is_in joined both less pieces closure is_closed is_open __len__ __eq__ __init__",
    ("places", "Scene"): "__init__ __eq__",
    ("machine", "Machine"): "__init__ __eq__ do run has lot volume copy",
    ("drawings", "Drawing"): "__init__ __eq__",
    ("benches", "Bench"): "__init__ __eq__ __len__ machine do undo redo tried keep copy deeds",
    ("desk", "Desk"): "__init__ say",
}

DUNDERS = "__init__ __eq__ __len__".split()

BUILTIN_METHODS = """append clear copy count endswith extend find get index insert isalnum isalpha isdigit islower isspace
    isupper items join keys ljust lower lstrip partition pop remove replace reverse rfind rjust rpartition rsplit rstrip
    setdefault split splitlines startswith strip update upper values zfill bit_length""".split()

ITERATED_AT_ONCE = "range zip enumerate reversed".split()
TAKERS = "list tuple dict sorted sum any all enumerate zip min max".split()
BARRED_WORDS = """type typing typing_extensions enum Enum Flag Generic Protocol ABC namedtuple NamedTuple TypedDict open input
    law mro elements register""".split()

LIBRARY = {
    "heapq": "heappush heappop heapify heapreplace heappushpop",
    "math": "gcd lcm isqrt comb perm factorial",
    "itertools": "product combinations permutations chain accumulate pairwise islice zip_longest",
    "collections": "defaultdict deque",
}

BUILTINS = """len range enumerate zip min max sum abs sorted reversed int str bool bytes list tuple dict set frozenset
    isinstance ord repr any all divmod pow getattr hasattr setattr iter next map type super property staticmethod
    classmethod Exception ValueError TypeError KeyError IndexError LookupError ZeroDivisionError ArithmeticError
    OverflowError RuntimeError NotImplementedError AttributeError StopIteration NotImplemented""".split()

BARRED = (ast.Global, ast.AsyncFunctionDef, ast.AsyncFor, ast.AsyncWith, ast.Await, ast.Div)


def sources():
    """The package's files, by their names without the ending."""
    found = {}
    for name in sorted(os.listdir(PACKAGE)):
        if name != "__pycache__":
            with open(os.path.join(PACKAGE, name), encoding="ascii", newline="") as file:
                found[name] = file.read()
    return found


def trees():
    return {name.removesuffix(".py"): ast.parse(text) for name, text in sources().items()}


def defined(tree):
    """The names of the functions and classes at module level."""
    return [node.name for node in tree.body if isinstance(node, (ast.FunctionDef, ast.ClassDef))]


class Form(unittest.TestCase):
    def test_files_and_characters(self):
        self.assertIn("__init__.py", sources())
        for name, text in sources().items():
            self.assertRegex(name, r"^[a-z_][a-z0-9_]*\.py$")
            self.assertRegex(text, r"^[ -~\n]*$", name)
            lines = text.split("\n")
            self.assertLessEqual(len(lines), 400, name)
            self.assertLessEqual(max(len(line) for line in lines), 120, name)

    def test_functions_are_short(self):
        for name, tree in trees().items():
            for node in ast.walk(tree):
                if isinstance(node, ast.FunctionDef):
                    self.assertLessEqual(node.end_lineno - node.lineno + 1, 40, (name, node.name))

    def test_imports_name_the_file_that_defines(self):
        known = trees()
        for name, tree in known.items():
            for node in ast.walk(tree):
                self.assertNotIsInstance(node, ast.Import, name)
                if isinstance(node, ast.ImportFrom):
                    self.assertIn(node, tree.body)
                    self.assertEqual(node.level, 0)
                    package, _, file = node.module.partition(".")
                    names = defined(known[file]) if package == "allitreaches" else LIBRARY[node.module].split()
                    self.assertLessEqual({word.name for word in node.names}, set(names), (name, node.module))
                    self.assertEqual({word.asname for word in node.names}, {None})

    def test_only_some_builtins(self):
        import builtins
        for name, tree in trees().items():
            for node in ast.walk(tree):
                if isinstance(node, ast.Name) and node.id != "_" and hasattr(builtins, node.id):
                    self.assertIsInstance(node.ctx, ast.Load, (name, node.id))
                    self.assertIn(node.id, BUILTINS, name)

    def test_nothing_barred(self):
        for name, tree in trees().items():
            for node in ast.walk(tree):
                self.assertNotIsInstance(node, BARRED, name)
                if isinstance(node, ast.Constant):
                    self.assertNotIsInstance(node.value, (float, complex), name)
                if isinstance(node, (ast.FunctionDef, ast.ClassDef, ast.arg)):
                    self.assertNotIn(getattr(node, "name", getattr(node, "arg", None)), BUILTINS, name)

    def test_methods_stand_in_the_class_itself(self):
        known = trees()
        for (file, name), methods in METHODS.items():
            found = [node for node in known[file].body if isinstance(node, ast.ClassDef) and node.name == name]
            self.assertLessEqual(set(methods.split()), set(defined(found[0])), name)

    def test_only_some_double_underscores(self):
        for name, tree in trees().items():
            for node in ast.walk(tree):
                if isinstance(node, ast.FunctionDef) and node.name.startswith("__"):
                    self.assertIn(node.name, DUNDERS, name)

    def test_methods_that_are_called(self):
        known = trees()
        own = {node.name for tree in known.values() for node in ast.walk(tree) if isinstance(node, ast.FunctionDef)}
        for name, tree in known.items():
            for node in ast.walk(tree):
                if isinstance(node, ast.Call) and isinstance(node.func, ast.Attribute):
                    self.assertIn(node.func.attr, own | set(BUILTIN_METHODS), name)
                    self.assertTrue(node.func.attr in own or not node.keywords, (name, node.func.attr))

    def test_no_two_files_import_each_other(self):
        imported = {name: {node.module.partition(".")[2] for node in tree.body if isinstance(node, ast.ImportFrom)}
                    for name, tree in trees().items()}
        done = set()
        while len(done) < len(imported):
            ready = {name for name, others in imported.items() if name not in done and others - {""} <= done}
            self.assertTrue(ready, sorted(set(imported) - done))
            done |= ready

    def test_all_that_is_imported_is_used(self):
        for name, tree in trees().items():
            words = {node.id for node in ast.walk(tree) if isinstance(node, ast.Name)}
            for node in tree.body:
                if isinstance(node, ast.ImportFrom):
                    self.assertLessEqual({word.name for word in node.names}, words, name)

    def test_no_local_name_hides_an_import_or_a_class(self):
        for name, tree in trees().items():
            taken = {word.name for node in tree.body if isinstance(node, ast.ImportFrom) for word in node.names}
            taken |= {node.name for node in tree.body if isinstance(node, ast.ClassDef)}
            locals_here = {node.arg for node in ast.walk(tree) if isinstance(node, ast.arg)}
            locals_here |= {node.id for node in ast.walk(tree) if isinstance(node, ast.Name) and isinstance(node.ctx, ast.Store)}
            self.assertEqual(taken & locals_here, set(), name)

    def test_what_is_iterated_at_once(self):
        for name, tree in trees().items():
            let = set()
            for node in ast.walk(tree):
                if isinstance(node, (ast.For, ast.comprehension)):
                    let.add(id(node.iter))
                if isinstance(node, ast.Call) and isinstance(node.func, ast.Name) and node.func.id in TAKERS:
                    let.update(id(word) for word in node.args)
            for node in ast.walk(tree):
                self.assertNotIsInstance(node, (ast.GeneratorExp, ast.Lambda), name)
                if isinstance(node, ast.Call) and isinstance(node.func, ast.Name) and node.func.id in ITERATED_AT_ONCE:
                    self.assertIn(id(node), let, (name, node.lineno))

    def test_no_barred_words(self):
        for name, tree in trees().items():
            for node in ast.walk(tree):
                for word in (getattr(node, "id", None), getattr(node, "attr", None), getattr(node, "arg", None),
                             getattr(node, "name", None)):
                    self.assertNotIn(word, BARRED_WORDS, name)
                    self.assertNotRegex(word or "", r"^(_outside|_record|_cold|_wall|_pe_|_dcw_|_enum_|_cm_|_lay_|_law_|_stub_)")

    def test_no_state_at_module_level(self):
        for name, tree in trees().items():
            for node in tree.body:
                self.assertIsInstance(node, (ast.Expr, ast.ImportFrom, ast.FunctionDef, ast.ClassDef, ast.Assign), name)
                if isinstance(node, ast.Assign):
                    self.check_table(name, tree, node)

    def check_table(self, name, tree, node):
        """That a name at module level is bound once, to words and what is defined above it, and only read by an item."""
        self.assertIsInstance(node.value, ast.Dict, name)
        target, = node.targets
        for word in node.value.keys:
            self.assertIsInstance(word.value, str, name)
        for value in node.value.values:
            if isinstance(value, ast.Name):
                self.assertIn(value.id, defined(ast.Module(tree.body[:tree.body.index(node)], [])), name)
            else:
                self.assertEqual({type(part.value) for part in value.elts}, {str}, name)
        used = [part for part in ast.walk(tree) if isinstance(part, ast.Name) and part.id == target.id]
        read = [part for part in ast.walk(tree) if isinstance(part, (ast.Subscript, ast.Attribute)) and part.value in used]
        self.assertEqual(len(used), 1 + len(read), name)
        self.assertLessEqual({part.attr for part in read if isinstance(part, ast.Attribute)}, {"get"}, name)
        self.assertEqual({type(part.ctx) for part in read}, {ast.Load}, name)

    def test_what_is_caught_and_what_is_done_at_last(self):
        own = {node.name for node in trees()["errors"].body if isinstance(node, ast.ClassDef)}
        for name, tree in trees().items():
            for node in [node for node in ast.walk(tree) if isinstance(node, ast.Try)]:
                for handler in node.handlers:
                    self.assertLessEqual({word.id for word in ast.walk(handler.type) if isinstance(word, ast.Name)}, own, name)
                # Plain assignments, and questions whether something is None.
                for part in [part for row in node.finalbody for part in ast.walk(row)]:
                    self.assertNotIsInstance(part, (ast.Call, ast.Subscript, ast.Return, ast.Raise, ast.BinOp, ast.For, ast.While), name)
                    if isinstance(part, ast.If):
                        self.assertIsInstance(part.test, ast.Compare)
                        self.assertIsInstance(part.test.ops[0], (ast.Is, ast.IsNot))

    def test_the_interface_is_defined_where_it_is_listed(self):
        known = trees()
        for file, names in INTERFACE.items():
            self.assertLessEqual(set(names.split()), set(defined(known[file])), file)


if __name__ == "__main__":
    unittest.main()
