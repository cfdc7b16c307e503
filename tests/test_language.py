"""The rules of the language that can be read off the package's files."""

import ast
import builtins
import pathlib
import re
import unittest

PACKAGE = pathlib.Path(__file__).resolve().parent.parent / "evenstrand"
FILES = sorted(PACKAGE.glob("*.py"))
ALLOWED_BUILTINS = set("""
len range enumerate zip min max sum abs sorted reversed int str bool bytes list tuple dict set frozenset isinstance
ord repr any all divmod iter next Exception ValueError TypeError KeyError IndexError LookupError ZeroDivisionError
ArithmeticError OverflowError RuntimeError NotImplementedError AttributeError StopIteration NotImplemented
""".split())
BARRED_WORDS = re.compile(
    r"\b(type|typing|typing_extensions|enum|Enum|IntEnum|StrEnum|Flag|IntFlag|Generic|Protocol|ABC|ABCMeta|namedtuple"
    r"|NamedTuple|TypedDict|TYPE_CHECKING|abstractmethod)\b|dataclass|overload|contextmanager")
BARRED_NODES = (
    ast.Global, ast.AsyncFunctionDef, ast.AsyncFor, ast.AsyncWith, ast.Await, ast.Import, ast.Div, ast.MatMult)
KNOWN_METHODS = set("""
append clear copy count endswith extend find get index insert isalnum isalpha isdigit islower isspace isupper items
join keys ljust lower lstrip partition pop remove replace reverse rfind rjust rpartition rsplit rstrip setdefault split
splitlines startswith strip update upper values zfill bit_length add discard sort __init__
""".split())
# The methods that the document's interface lists, each to stand in its class itself.
OWN_METHODS = {"Book": ["put", "pages", "entries", "told", "length", "end", "stretches"], "Desk": ["say"]}


def bound_names(tree):
    """The names that a file's functions give a meaning of their own: parameters and variables."""
    for node in ast.walk(tree):
        if isinstance(node, ast.arg):
            yield node.arg
        elif isinstance(node, ast.Name) and not isinstance(node.ctx, ast.Load):
            yield node.id


def defined_names(tree):
    """The names of a file's functions and classes; those of methods mean nothing outside of their class."""
    kinds = (ast.FunctionDef, ast.ClassDef)
    return [node.name for node in tree.body if isinstance(node, kinds)]


def imports_of(tree):
    return [node for node in ast.walk(tree) if isinstance(node, ast.ImportFrom)]


class Language(unittest.TestCase):
    def each_file(self):
        self.assertTrue(FILES)
        texts = [file.read_text(encoding="utf-8") for file in FILES]
        return [(file, text, ast.parse(text, file.name)) for file, text in zip(FILES, texts)]

    def test_only_plain_files(self):
        for path in PACKAGE.iterdir():
            if path.name != "__pycache__":
                self.assertRegex(path.name, r"\A([a-z][a-z0-9_]*|__init__|__main__)\.py\Z")
        self.assertNotIn("__main__.py", [file.name for file in FILES])

    def test_size_and_signs(self):
        for _, text, tree in self.each_file():
            lines = text.split("\n")
            self.assertLessEqual(len(lines), 400)
            self.assertLessEqual(max(len(line) for line in lines), 120)
            self.assertRegex(text, r"\A[ -~\n]*\Z")
            for node in ast.walk(tree):
                if isinstance(node, ast.FunctionDef):
                    self.assertLessEqual(node.end_lineno - node.lineno + 1, 40)

    def test_words_and_nodes(self):
        for _, text, tree in self.each_file():
            self.assertIsNone(BARRED_WORDS.search(text))
            for node in ast.walk(tree):
                self.assertNotIsInstance(node, BARRED_NODES)
                if isinstance(node, ast.Constant):
                    self.assertNotIsInstance(node.value, (float, complex))
                    self.assertNotIn("%", node.value if isinstance(node.value, str) else "")

    def test_imports(self):
        sources = {}
        for file, _, tree in self.each_file():
            sources[file.stem] = []
            for node in imports_of(tree):
                self.assertEqual(node.level, 0)
                self.assertRegex(node.module, r"\Aevenstrand\.[a-z]+\Z")
                source = node.module.split(".")[1]
                sources[file.stem].append(source)
                there = ast.parse((PACKAGE / f"{source}.py").read_text(encoding="utf-8"))
                tops = [n.name for n in there.body if isinstance(n, (ast.FunctionDef, ast.ClassDef))]
                tops += [t.id for n in there.body if isinstance(n, ast.Assign) for t in n.targets]
                for alias in node.names:
                    self.assertIn(alias.name, tops)
        self.check_no_ring(sources)

    def check_no_ring(self, sources):
        done = set()
        while len(done) < len(sources):
            ready = [name for name in sources if name not in done and done.issuperset(sources[name])]
            self.assertTrue(ready, "files import from each other")
            done.update(ready)

    def test_names(self):
        for file, _, tree in self.each_file():
            imported = {alias.asname or alias.name for node in imports_of(tree) for alias in node.names}
            for name in bound_names(tree):
                self.assertRegex(name, r"\A[A-Za-z][A-Za-z0-9_]*\Z")
                self.assertFalse(name in vars(builtins), f"{file.name}: {name}")
                self.assertNotIn(name, imported)
                self.assertNotIn(name, [*defined_names(tree), "register", "elements", "exit", "help", "os", "sys"])
            for name in defined_names(tree):
                self.assertFalse(name in vars(builtins), f"{file.name}: {name}")

    def test_builtins_and_methods(self):
        for _, _, tree in self.each_file():
            for node in ast.walk(tree):
                if isinstance(node, ast.Name) and node.id in vars(builtins):
                    self.assertIn(node.id, ALLOWED_BUILTINS)
                if isinstance(node, ast.Call) and isinstance(node.func, ast.Attribute):
                    self.assertIn(node.func.attr, KNOWN_METHODS.union(*OWN_METHODS.values()))

    def test_methods_and_attributes(self):
        classes = [node for _, _, tree in self.each_file() for node in tree.body if isinstance(node, ast.ClassDef)]
        methods = {node.name: defined_names(node) for node in classes}
        attributes = {part.attr for node in classes for part in ast.walk(node)
                      if isinstance(part, ast.Attribute) and isinstance(part.ctx, ast.Store)}
        self.assertTrue(attributes)
        for name, listed in OWN_METHODS.items():
            self.assertEqual(sorted(methods[name]), sorted(listed + ["__init__"]))
            self.assertFalse(attributes.intersection(listed))

    def test_is_stands_beside_none_and_truths(self):
        for _, _, tree in self.each_file():
            for node in ast.walk(tree):
                if isinstance(node, ast.Compare):
                    for sign, right in zip(node.ops, node.comparators):
                        if isinstance(sign, (ast.Is, ast.IsNot)):
                            self.assertIn(ast.dump(right), [ast.dump(ast.Constant(x)) for x in (None, True, False)])

    def test_each_file_class_and_function_says_what_it_is(self):
        for _, _, tree in self.each_file():
            self.assertTrue(ast.get_docstring(tree))
            for node in tree.body:
                if isinstance(node, (ast.FunctionDef, ast.ClassDef)):
                    self.assertTrue(ast.get_docstring(node), node.name)


if __name__ == "__main__":
    unittest.main()
