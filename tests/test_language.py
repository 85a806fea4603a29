"""Whether the files of the package keep the rules of the language that can be told from their form.

Stricter than the rules here and there: what the package does without is not told apart.
"""

import ast
import builtins
import pathlib
import re
import unittest

FOLDER = pathlib.Path(__file__).resolve().parent.parent / 'twinleaves'

# Doctest adds the name _.
BUILT_IN = set(dir(builtins)) - {'_'}

BUILTINS = set('''len range enumerate zip min max sum abs sorted reversed int str bool list tuple dict set isinstance
ord repr any all divmod iter ValueError NotImplemented'''.split())

METHODS = set('''append clear copy count endswith extend find get index insert isalnum isalpha isdigit islower isspace
isupper items join keys ljust lower lstrip partition pop remove replace reverse rfind rjust rpartition rsplit rstrip
setdefault split splitlines startswith strip update upper values zfill bit_length'''.split())

SPECIAL = set('''__init__ __eq__ __repr__ __str__ __len__ __iter__ __call__ __add__ __radd__ __sub__ __rsub__ __mul__
__rmul__ __neg__ __bool__ __contains__ __getitem__ __setitem__ __or__ __ior__'''.split())

NOT_ATTRIBUTES = set('''items keys values pop update append clear extend insert remove reverse setdefault sort args
encode decode hex fromhex format format_map mro register elements open input law version_info with_traceback add_note
real imag numerator denominator conjugate from_bytes to_bytes is_integer bit_count as_integer_ratio union difference
intersection isdisjoint issubset issuperset popitem fromkeys isascii isdecimal isnumeric'''.split())

NOT_WORDS = set('''type typing typing_extensions enum Enum IntEnum StrEnum Flag IntFlag Generic Protocol ABC ABCMeta
namedtuple NamedTuple TypedDict TYPE_CHECKING abstractmethod dataclass overload contextmanager'''.split())

NOT_NODES = (ast.AsyncFor, ast.AsyncFunctionDef, ast.AsyncWith, ast.Await, ast.Global, ast.Nonlocal, ast.Import,
             ast.Set, ast.SetComp, ast.GeneratorExp, ast.Yield, ast.YieldFrom, ast.Div, ast.MatMult, ast.Try,
             ast.TryStar, ast.With, ast.Lambda, ast.NamedExpr, ast.AnnAssign, ast.Match, ast.Pow)


def sources():
    return {path: path.read_text(encoding='ascii') for path in sorted(FOLDER.glob('*.py'))}


def trees():
    return {path: ast.parse(text) for path, text in sources().items()}


def nodes():
    return [(path, node) for path, tree in trees().items() for node in ast.walk(tree)]


def without_docstrings(tree):
    for node in ast.walk(tree):
        if isinstance(node, (ast.Module, ast.ClassDef, ast.FunctionDef)) and ast.get_docstring(node) is not None:
            node.body = node.body[1:]
    return tree


def bound_names(tree):
    """The names that a file binds at module level, with how often it does."""
    names = []
    for node in tree.body:
        if isinstance(node, (ast.FunctionDef, ast.ClassDef)):
            names.append(node.name)
        elif isinstance(node, ast.ImportFrom):
            names += [alias.name for alias in node.names]
        elif isinstance(node, ast.Assign):
            names += [target.id for target in node.targets]
    return names


class LanguageTest(unittest.TestCase):

    def test_folder(self):
        names = [path.name for path in FOLDER.iterdir() if path.name != '__pycache__']
        for name in names:
            self.assertRegex(name, r'^[a-z_][a-z0-9_]*\.py$')
            self.assertNotIn(name[:-3], BUILT_IN)
        self.assertLessEqual(len(names), 100)

    def test_signs_and_sizes(self):
        for path, text in sources().items():
            rows = text.split('\n')
            self.assertLessEqual(len(rows), 400, path)
            self.assertTrue(all(sign == '\n' or ' ' <= sign <= '~' for sign in text), path)
            self.assertTrue(all(len(row) <= 120 and row == row.rstrip() for row in rows), path)
            self.assertIsNone(re.search('_wall|_WallAttr', text))
        for path, node in nodes():
            if isinstance(node, ast.FunctionDef):
                self.assertLessEqual(node.end_lineno - node.lineno + 1, 40, (path, node.name))

    def test_statements_and_expressions(self):
        for path, node in nodes():
            where = (path.name, getattr(node, 'lineno', None))
            self.assertNotIsInstance(node, NOT_NODES, where)
            if isinstance(node, (ast.FunctionDef, ast.ClassDef)):
                self.assertFalse([name for name in node.decorator_list
                                  if getattr(name, 'id', '') not in ('property', 'staticmethod', 'classmethod')], where)
                self.assertIsNotNone(ast.get_docstring(node) or node.name in SPECIAL or None, where)
            if isinstance(node, ast.Constant):
                self.assertNotIsInstance(node.value, (float, complex, bytes), where)
            if isinstance(node, ast.Compare):
                for sign, side in zip(node.ops, node.comparators):
                    if isinstance(sign, (ast.Is, ast.IsNot)):
                        self.assertTrue(isinstance(side, ast.Constant) and side.value in (None, True, False), where)

    def test_module_level(self):
        for path, tree in trees().items():
            for node in without_docstrings(tree).body:
                self.assertIsInstance(node, (ast.ImportFrom, ast.FunctionDef, ast.ClassDef, ast.Assign), path)
                if isinstance(node, ast.Assign):
                    self.assertEqual([type(target) for target in node.targets], [ast.Name], path)
            names = bound_names(tree)
            self.assertEqual(len(names), len(set(names)), path)

    def test_imports(self):
        needs = {}
        for path, tree in trees().items():
            needs[path.stem] = []
            for node in ast.walk(tree):
                if isinstance(node, ast.ImportFrom):
                    package, stem = node.module.split('.')
                    self.assertEqual((package, node.level), ('twinleaves', 0))
                    self.assertIn(node, tree.body)
                    needs[path.stem].append(stem)
                    defined = [name for name in bound_names(ast.parse((FOLDER / f'{stem}.py').read_text()))]
                    for alias in node.names:
                        self.assertIsNone(alias.asname)
                        self.assertIn(alias.name, defined)
                        other = ast.parse((FOLDER / f'{stem}.py').read_text())
                        brought = [each.name for one in other.body if isinstance(one, ast.ImportFrom)
                                   for each in one.names]
                        self.assertNotIn(alias.name, brought, path)
        while needs:
            free = [stem for stem, others in needs.items() if not [one for one in others if one in needs]]
            self.assertTrue(free, needs)
            for stem in free:
                del needs[stem]

    def test_imports_are_used(self):
        for path, tree in trees().items():
            used = {node.id for node in ast.walk(tree) if isinstance(node, ast.Name)}
            for node in tree.body:
                if isinstance(node, ast.ImportFrom):
                    self.assertEqual([alias.name for alias in node.names if alias.name not in used], [], path)

    def test_names(self):
        for path, tree in trees().items():
            names = bound_names(tree)
            fixed = {alias.name for node in tree.body if isinstance(node, ast.ImportFrom) for alias in node.names}
            fixed |= {node.name for node in tree.body if isinstance(node, ast.ClassDef)}
            self.assertEqual([name for name in names if name in BUILT_IN], [])
            for node in ast.walk(tree):
                where = (path.name, getattr(node, 'lineno', None))
                if isinstance(node, ast.Name) and isinstance(node.ctx, ast.Store) or isinstance(node, ast.arg):
                    name = node.id if isinstance(node, ast.Name) else node.arg
                    self.assertNotIn(name, fixed, where)
                    self.assertNotIn(name, BUILT_IN, where)
                    self.assertNotRegex(name, '^__', where)
                if isinstance(node, ast.Name) and node.id == '_':
                    self.assertIsInstance(node.ctx, ast.Store, where)
                if isinstance(node, ast.Name) and node.id in BUILT_IN:
                    self.assertIn(node.id, BUILTINS, where)

    def test_attributes_and_methods(self):
        classes = [node for _, node in nodes() if isinstance(node, ast.ClassDef)]
        methods = {part.name for node in classes for part in node.body if isinstance(part, ast.FunctionDef)}
        stored = {node.attr for _, node in nodes() if isinstance(node, ast.Attribute)
                  and isinstance(node.ctx, ast.Store)}
        self.assertEqual(stored & NOT_ATTRIBUTES, set())
        self.assertEqual((methods - SPECIAL) & (NOT_ATTRIBUTES | METHODS), set())
        self.assertEqual({name for name in methods if name.startswith('__')} - SPECIAL, set())
        for node in classes:
            own = {part.name for part in node.body if isinstance(part, ast.FunctionDef)}
            self.assertEqual(own & {part.attr for part in ast.walk(node) if isinstance(part, ast.Attribute)
                                    and isinstance(part.ctx, ast.Store)}, set(), node.name)
        for path, node in nodes():
            where = (path.name, getattr(node, 'lineno', None))
            if isinstance(node, ast.Call) and isinstance(node.func, ast.Attribute):
                self.assertIn(node.func.attr, methods | METHODS, where)
            elif isinstance(node, ast.Attribute):
                self.assertIn(node.attr, stored | methods | METHODS, where)

    def test_strings(self):
        for path, tree in trees().items():
            for node in ast.walk(without_docstrings(tree)):
                if isinstance(node, ast.Constant) and isinstance(node.value, str):
                    self.assertNotIn('%', node.value, path)
                    self.assertNotRegex(node.value, r'\b(' + '|'.join(NOT_WORDS) + r')\b', path)
                    self.assertNotRegex(node.value, r'\._+$', path)
                if isinstance(node, ast.Name):
                    self.assertNotIn(node.id, NOT_WORDS, path)


if __name__ == '__main__':
    unittest.main()
