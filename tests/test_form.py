"""The form of the package's files, as far as it can be told from their words: sizes, imports, names."""

import ast
import builtins
import os
import unittest

import meetfolk

FOLDER = os.path.dirname(meetfolk.__file__)
BUILTINS = (
    "len range enumerate zip min max sum abs sorted reversed int str bool bytes list tuple dict set isinstance ord repr "
    "any all divmod pow getattr hasattr setattr iter next map super Exception ValueError TypeError KeyError IndexError "
    "LookupError ZeroDivisionError ArithmeticError OverflowError RuntimeError NotImplementedError AttributeError "
    "StopIteration NotImplemented"
).split()
LIBRARY = {
    "heapq": ("heappush", "heappop", "heapify", "heapreplace", "heappushpop"),
    "math": ("gcd", "lcm", "isqrt", "comb", "perm", "factorial"),
    "itertools": (
        "product", "combinations", "permutations", "chain", "accumulate", "pairwise", "islice", "zip_longest",
    ),
    "collections": ("defaultdict",),
}
WHERE = {
    "crowds": ("is_folk", "is_at_rest", "meetings", "met", "met_all"),
    "resting": ("always_rests", "judged_rest", "weights", "round_of", "rest_paper"),
    "ending": ("ends", "is_one_ended", "parting", "ends_paper", "judged_ends", "leaps", "end"),
    "rays": ("ray", "on_ray"),
    "alike": ("ends_alike", "unlike_crowd", "keeps", "kept", "are_parted"),
    "choosing": (
        "longest", "shortest", "longest_row", "count_rows", "chances", "expected", "least_crowd", "least_other",
    ),
    "reading": ("check", "printed"),
    "running": ("run",),
    "desks": ("Desk", "desk_of"),
    "shapes": ("is_of_shape", "rest_shapes", "likenesses", "lumps", "lumped", "lumped_crowd"),
}
DESK = ("meet", "join", "leave", "undo", "crowd", "row", "is_at_rest", "text")
# The methods of values that may be called; a class of the package may define others.
METHODS = (
    "append clear copy count endswith extend find get index insert isalnum isalpha isdigit islower isspace isupper items "
    "join keys ljust lower lstrip partition pop remove replace reverse rfind rjust rpartition rsplit rstrip setdefault "
    "split splitlines startswith strip update upper values zfill bit_length"
).split()


def files():
    """The name and the text of each file of the package."""
    found = []
    for name in sorted(os.listdir(FOLDER)):
        if name != "__pycache__":
            with open(os.path.join(FOLDER, name), encoding="utf-8", newline="") as opened:
                found.append((name, opened.read()))
    return found


def nodes(kind):
    """The file's name and the node, for each node of this kind."""
    return [(name, node) for name, text in files() for node in ast.walk(ast.parse(text)) if isinstance(node, kind)]


class TestForm(unittest.TestCase):
    def test_only_python_files_with_plain_names(self):
        for name, _ in files():
            self.assertRegex(name, r"\A[a-z0-9_]+\.py\Z")

    def test_characters_and_sizes(self):
        for name, text in files():
            lines = text.split("\n")
            self.assertTrue(all(" " <= sign <= "~" or sign == "\n" for sign in text), name)
            self.assertLessEqual(len(lines) - 1, 399, name)
            self.assertLessEqual(max(len(line) for line in lines), 120, name)

    def test_sizes_of_functions(self):
        for name, node in nodes(ast.FunctionDef):
            self.assertLessEqual(node.end_lineno - node.lineno + 1, 40, f"{name} {node.name}")

    def test_imports(self):
        for name, node in nodes(ast.ImportFrom):
            self.assertEqual(node.level, 0, name)
            for word in node.names:
                self.assertIsNone(word.asname, name)
                if node.module in LIBRARY:
                    self.assertIn(word.name, LIBRARY[node.module], name)
                else:
                    self.assertTrue(node.module.startswith("meetfolk."), name)

    def test_statements_that_are_not_used(self):
        for name, node in nodes((ast.Global, ast.AsyncFunctionDef, ast.AsyncFor, ast.AsyncWith, ast.Import, ast.Div)):
            self.fail(f"{name} line {getattr(node, 'lineno', '')}: {type(node).__name__}")
        for name, node in nodes(ast.Constant):
            self.assertNotIsInstance(node.value, float, name)

    def test_module_level(self):
        for name, text in files():
            for node in ast.parse(text).body:
                plain = isinstance(node, ast.Expr) and isinstance(node.value, ast.Constant)
                told = isinstance(node, (ast.ImportFrom, ast.FunctionDef, ast.ClassDef, ast.Assign))
                self.assertTrue(plain or told, f"{name} line {node.lineno}")

    def test_builtins(self):
        for name, node in nodes(ast.Name):
            # The tests of the examples leave a `_` among the builtins.
            if node.id != "_" and hasattr(builtins, node.id):
                self.assertIn(node.id, BUILTINS, name)
                self.assertIsInstance(node.ctx, ast.Load, f"{name} {node.id}")
        for name, node in nodes(ast.arg):
            self.assertFalse(hasattr(builtins, node.arg), f"{name} {node.arg}")

    def test_the_interface_is_defined_where_it_is_listed(self):
        for module, told in WHERE.items():
            text = dict(files())[f"{module}.py"]
            made = [node.name for node in ast.parse(text).body if isinstance(node, (ast.FunctionDef, ast.ClassDef))]
            for name in told:
                self.assertIn(name, made)

    def test_the_methods_of_the_desk_are_its_own(self):
        desk = [node for _, node in nodes(ast.ClassDef) if node.name == "Desk"][0]
        made = [node.name for node in desk.body if isinstance(node, ast.FunctionDef)]
        for name in DESK:
            self.assertIn(name, made)

    def test_methods_that_are_called(self):
        own = [node.name for _, node in nodes(ast.FunctionDef)]
        for name, node in nodes(ast.Call):
            if isinstance(node.func, ast.Attribute):
                self.assertIn(node.func.attr, METHODS + own, f"{name} line {node.lineno}")

    def test_no_two_files_import_from_each_other(self):
        behind = {name[:-3]: [] for name, _ in files()}
        for name, node in nodes(ast.ImportFrom):
            if node.module.startswith("meetfolk."):
                behind[name[:-3]].append(node.module.split(".")[1])
        while behind:
            free = [name for name in behind if not any(other in behind for other in behind[name])]
            self.assertTrue(free, behind)
            for name in free:
                del behind[name]


if __name__ == "__main__":
    unittest.main()
