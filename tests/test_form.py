"""The form of the package: its interface as the document lists it, and what a program can see of the language."""

import ast
import builtins
import inspect
import unittest
from importlib import import_module
from pathlib import Path

from lumplooks.errors import LumpError

PACKAGE = Path(__file__).resolve().parent.parent / "lumplooks"

# For each file the functions and classes that it defines, with their parameters.
DEFINED = {
    "numbers": {"is_number": "(value, least=0, most=999999999999999999)", "is_name": "(value)", "number_in": "(text)"},
    "letters": {"Letter": "(*spans)", "cut": "(*letters)", "letter_for": "(wanted, others)"},
    "seats": {"Seat": "(name)", "Thing": "(name, number)", "Peg": "(name)"},
    "books": {"Book": "(seats=(), records=())"},
    "stories": {"Story": "(book, letter, states)"},
    "prices": {"Prices": "(book, prices)"},
    "papers": {
        "Paper": "(book, letter)", "Least": "(book, letter, story, prices)",
        "Counts": "(book, letter, names, low_story, high_story, low_prices, high_prices)",
        "Fate": "(book, letter, name, low_story, high_story, low_prices, high_prices)",
    },
    "cases": {"Case": "(book, letter)"},
    "lumps": {
        "Lump": "(names, pegs, is_loose)", "lumps": "(case)", "looks": "(case)", "plan": "(case)",
        "lists": "(case, *, limit=1000)", "exchange": "(case, one, other)", "alone": "(case, name)",
        "fates_after": "(case, *answers)",
    },
    "answerers": {"Answerer": "(case)"},
    "more": {
        "comes": "(case, record)", "goes": "(case, record)", "spare": "(case, *, limit=1000)",
        "turned": "(book, letter, other)",
    },
    "rules": {"Rule": "(links=None, order='stopped')"},
    "recalls": {"Recall": "(*, limit=60)"},
    "pages": {"write_page": "(recall)", "read_page": "(text)"},
    "desk": {"Desk": "(*, recall=None)"},
}
# For each class what its own body defines; parameters behind the object itself.
METHODS = {
    ("letters", "Letter"): {
        "runs": "()", "walk": "()", "many": None, "within": "(other)", "widened": "(by)", "text": "()",
        "shortest": "()", "read": "(text)", "__init__": "(*spans)", "__contains__": "(number)", "__or__": "(other)",
        "__and__": "(other)", "__sub__": "(other)", "__eq__": "(other)", "__bool__": "()", "__repr__": "()",
    },
    ("seats", "Seat"): {
        "label": None, "text": "()", "__init__": "(name)", "__eq__": "(other)", "__repr__": "()",
    },
    ("seats", "Thing"): {"number": None, "text": "()", "__init__": "(name, number)", "__eq__": "(other)"},
    ("seats", "Peg"): {"__init__": "(name)"},
    ("books", "Book"): {
        "seats": "()", "records": "()", "names": "(*kinds)", "seat": "(name)", "steps": "()", "with_record": "(record)",
        "without": "(index)", "since": "(hour)", "__init__": "(seats=(), records=())", "__contains__": "(name)",
        "__len__": "()", "__eq__": "(other)", "__repr__": "()",
    },
    ("stories", "Story"): {
        "book": None, "letter": None, "states": "()", "holds": "()", "false_records": "()", "named": "()",
        "__init__": "(book, letter, states)", "__eq__": "(other)", "__repr__": "()",
    },
    ("prices", "Prices"): {
        "book": None, "rows": "()", "is_whole": "()", "bound": "(letter, *, counted=(), sign=0)",
        "__init__": "(book, prices)", "__repr__": "()",
    },
    ("papers", "Paper"): {
        "book": None, "letter": None, "told": "()", "holds": "()", "__init__": "(book, letter)", "__repr__": "()",
    },
    ("papers", "Least"): {
        "story": None, "prices": None, "many_false": "()", "told": "()", "holds": "()",
        "__init__": "(book, letter, story, prices)",
    },
    ("papers", "Counts"): {
        "names": "()", "low_story": None, "high_story": None, "low_prices": None, "high_prices": None, "low": "()",
        "high": "()", "told": "()", "holds": "()",
    },
    ("papers", "Fate"): {"label": None, "told": "()"},
    ("cases", "Case"): {
        "book": None, "letter": None, "least": None, "best": "()", "counts": "(*names)", "fate": "(name)",
        "fates": "()", "fewest": "(name, *, is_named=True)", "record_fate": "(index)", "write": "()",
        "letter_to_owners": "()", "__init__": "(book, letter)", "__repr__": "()",
    },
    ("lumps", "Lump"): {
        "names": "()", "pegs": "()", "is_open": None, "looks": "()", "__init__": "(names, pegs, is_loose)",
        "__len__": "()", "__repr__": "()",
    },
    ("answerers", "Answerer"): {
        "answer": "(name)", "asked": "()", "is_settled": "()", "pair": "()", "take_back": "()", "__init__": "(case)",
        "__call__": "(name)", "__len__": "()", "__repr__": "()",
    },
    ("rules", "Rule"): {
        "links": None, "order": None, "written": "(book, letter)", "misses": "(case)", "needless": "(case)",
        "covers": "(other)", "witness": "(other)", "__init__": "(links=None, order='stopped')", "__eq__": "(other)",
        "__repr__": "()",
    },
    ("recalls", "Recall"): {
        "limit": None, "set_limit": "(value)", "do": "(*commands)", "undo": "()", "redo": "()", "history": "()",
        "busy": None, "book_now": "()", "letter_now": "()", "least_now": "()", "looks": "()", "fate": "(name)",
        "case": "()", "is_kept": None, "computed": None, "twin": "()", "__init__": "(*, limit=60)",
        "__contains__": "(name)", "__len__": "()", "__eq__": "(other)", "__repr__": "()",
    },
    ("desk", "Desk"): {
        "say": "(line)", "recall": "()", "log": "()", "__init__": "(*, recall=None)", "__call__": "(line)",
        "__len__": "()", "__repr__": "()",
    },
}
BUILTINS = {
    "len", "range", "enumerate", "zip", "min", "max", "sum", "abs", "sorted", "reversed", "int", "str", "bool", "bytes",
    "list", "tuple", "dict", "set", "isinstance", "ord", "repr", "any", "all", "divmod", "pow", "map", "iter", "next",
    "super", "property", "staticmethod", "classmethod", "NotImplemented", "Exception", "ValueError", "KeyError",
    "TypeError", "IndexError", "LookupError", "ZeroDivisionError",
}
LIBRARY = {"heapq", "math", "itertools", "collections"}
OWN_METHODS = {
    "__init__", "__eq__", "__repr__", "__str__", "__len__", "__enter__", "__exit__", "__call__", "__iter__",
    "__contains__", "__or__", "__and__", "__sub__", "__bool__",
}


def files():
    return sorted(PACKAGE.glob("**/*.py"))


def nodes(kinds):
    """The pairs (place, node) of all files."""
    found = []
    for path in files():
        for node in ast.walk(ast.parse(path.read_text())):
            if isinstance(node, kinds):
                found.append((f"{path.name}:{getattr(node, 'lineno', 0)}", node))
    return found


def is_text(node):
    """Whether a returned value is a string, an f-string, str(..), repr(..) or the join of a literal."""
    if isinstance(node, ast.Call) and isinstance(node.func, ast.Attribute):
        return node.func.attr == "join" and is_text(node.func.value) and isinstance(node.func.value, ast.Constant)
    if isinstance(node, ast.Call):
        return isinstance(node.func, ast.Name) and node.func.id in ("str", "repr")
    return isinstance(node, ast.JoinedStr) or isinstance(node, ast.Constant) and isinstance(node.value, str)


def is_length(node):
    """Whether a returned value is len(..) or a literal number."""
    if isinstance(node, ast.Call):
        return isinstance(node.func, ast.Name) and node.func.id == "len"
    return isinstance(node, ast.Constant) and isinstance(node.value, int) and not isinstance(node.value, bool)


def parameters(made):
    """The parameters of a function or, without its object, of a method."""
    return str(inspect.signature(made)).replace("(self, ", "(").replace("(self)", "()")


class InterfaceTest(unittest.TestCase):
    def test_names_are_defined_in_their_files(self):
        for name, listed in DEFINED.items():
            module = import_module(f"lumplooks.{name}")
            for word, wanted in listed.items():
                self.assertEqual(getattr(module, word).__module__, f"lumplooks.{name}", word)
                self.assertEqual(str(inspect.signature(getattr(module, word))), wanted, word)

    def test_methods_stand_in_their_classes(self):
        for (name, word), listed in METHODS.items():
            body = vars(getattr(import_module(f"lumplooks.{name}"), word))
            for method, wanted in listed.items():
                made = body[method]
                if wanted is None:
                    self.assertIsInstance(made, property, method)
                else:
                    made = made.__func__ if isinstance(made, staticmethod) else made
                    self.assertEqual(parameters(made), wanted, method)

    def test_read_is_a_static_method(self):
        body = vars(import_module("lumplooks.letters").Letter)
        self.assertIsInstance(body["read"], staticmethod)

    def test_errors_stand_in_their_file(self):
        for made in LumpError.__subclasses__():
            self.assertEqual(made.__module__, "lumplooks.errors")


class LanguageTest(unittest.TestCase):
    def test_only_plain_files(self):
        for path in PACKAGE.glob("**/*"):
            if "__pycache__" not in path.parts:
                self.assertEqual(path.suffix, ".py", path)
                self.assertRegex(path.stem, "^[a-z0-9_]+$")
        self.assertTrue((PACKAGE / "__init__.py").is_file())

    def test_characters_and_sizes(self):
        for path in files():
            text = path.read_text()
            self.assertTrue(all(sign == "\n" or " " <= sign <= "~" for sign in text), path)
            self.assertLessEqual(len(text.splitlines()), 399, path)
            for line in text.splitlines():
                self.assertLessEqual(len(line), 120, f"{path}: {line}")

    def test_functions_are_small(self):
        for place, node in nodes(ast.FunctionDef):
            self.assertLessEqual(node.end_lineno - node.lineno + 1, 40, place)

    def test_imports(self):
        for place, node in nodes((ast.Import, ast.ImportFrom)):
            self.assertIsInstance(node, ast.ImportFrom, place)
            self.assertEqual(node.level, 0, place)
            self.assertTrue(node.module in LIBRARY or node.module.startswith("lumplooks."), place)
            self.assertTrue(all(name.asname is None and name.name != "*" for name in node.names), place)
            if node.module not in LIBRARY:
                module = import_module(node.module)
                for name in node.names:
                    origin = getattr(getattr(module, name.name), "__module__", node.module)
                    self.assertEqual(origin, node.module, place)

    def test_strings_have_no_percent_sign(self):
        for place, node in nodes(ast.Constant):
            if isinstance(node.value, str):
                self.assertNotIn(chr(37), node.value, place)

    def test_only_listed_builtins(self):
        barred = {name for name in vars(builtins) if name not in BUILTINS and name not in ("True", "False", "None")}
        for place, node in nodes(ast.Name):
            self.assertNotIn(node.id, barred, place)

    def test_decorators_and_own_methods(self):
        for place, node in nodes(ast.FunctionDef):
            words = [ast.unparse(word) for word in node.decorator_list]
            for word in words:
                self.assertTrue(word in ("property", "staticmethod", "classmethod") or word.endswith(".setter"), place)
            if node.name.startswith("__"):
                self.assertIn(node.name, OWN_METHODS, place)

    def test_what_own_methods_return(self):
        forms = {"__repr__": is_text, "__str__": is_text, "__len__": is_length}
        for place, node in nodes(ast.FunctionDef):
            if node.name in forms:
                self.assertIsInstance(node.body[-1], ast.Return, place)
                for inner in ast.walk(node):
                    if isinstance(inner, ast.Return):
                        self.assertTrue(forms[node.name](inner.value), place)

    def test_forms_of_returned_values(self):
        for text, of_text, of_length in [
            ("'a'", True, False), ("f'{a}'", True, False), ("str(a)", True, False), ("repr(a)", True, False),
            ("' '.join(a)", True, False), ("len(a)", False, True), ("3", False, True), ("a", False, False),
            ("f'{a}' if b else f'{c}'", False, False), ("'a' + 'b'", False, False), ("a.join(b)", False, False),
            ("str(a).join(b)", False, False), ("a.text()", False, False), ("a or 'b'", False, False),
            ("len(a) + 1", False, False), ("1 if a else 2", False, False), ("True", False, False), ("b'a'", False, False),
        ]:
            node = ast.parse(text, mode="eval").body
            self.assertEqual([is_text(node), is_length(node)], [of_text, of_length], text)

    def test_no_statements_that_the_language_lacks(self):
        barred = (ast.Global, ast.AsyncFunctionDef, ast.Await, ast.AsyncFor, ast.AsyncWith, ast.Div)
        self.assertEqual(nodes(barred), [])

    def test_no_floats(self):
        for place, node in nodes(ast.Constant):
            self.assertNotIsInstance(node.value, (float, complex), place)


if __name__ == "__main__":
    unittest.main()
