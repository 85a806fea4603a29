"""Whether the files of the package keep the rules of the language that can be told from their form.

Stricter than the rules here and there: what the package does without is not told apart.
"""

import ast
import builtins
import pathlib
import re
import unittest

FOLDER = pathlib.Path(__file__).resolve().parent.parent / 'twinleaves'

# Doctest adds the name _.
BUILT_IN = set(dir(builtins)) - {'_'}

BUILTINS = set('''len range enumerate zip min max sum abs sorted reversed int str bool list tuple dict set isinstance
ord repr any all divmod iter ValueError TypeError NotImplemented staticmethod property'''.split())

METHODS = set('''append clear copy count endswith extend find get index insert isalnum isalpha isdigit islower isspace
isupper items join keys ljust lower lstrip partition pop remove replace reverse rfind rjust rpartition rsplit rstrip
setdefault split splitlines startswith strip update upper values zfill bit_length'''.split())

SPECIAL = set('''__init__ __eq__ __repr__ __str__ __len__ __iter__ __call__ __add__ __radd__ __sub__ __rsub__ __mul__
__rmul__ __neg__ __bool__ __contains__ __getitem__ __setitem__ __or__ __ror__ __ior__'''.split())

NOT_ATTRIBUTES = set('''items keys values pop update append clear extend insert remove reverse setdefault sort args
encode decode hex fromhex format format_map mro register elements open input law version_info with_traceback add_note
real imag numerator denominator conjugate maketrans translate from_bytes to_bytes is_integer bit_count as_integer_ratio union difference
intersection isdisjoint issubset issuperset popitem fromkeys isascii isdecimal isnumeric'''.split())

NOT_WORDS = set('''type typing typing_extensions enum Enum IntEnum StrEnum Flag IntFlag Generic Protocol ABC ABCMeta
namedtuple NamedTuple TypedDict TYPE_CHECKING abstractmethod dataclass overload contextmanager'''.split())

NOT_NODES = (ast.AsyncFor, ast.AsyncFunctionDef, ast.AsyncWith, ast.Await, ast.Global, ast.Import,
             ast.Set, ast.GeneratorExp, ast.YieldFrom, ast.Div, ast.MatMult,
             ast.TryStar, ast.With, ast.Lambda, ast.NamedExpr, ast.AnnAssign, ast.Match, ast.Pow)

# What is imported from outside of the package.
LIBRARY = {'math': {'gcd', 'lcm'}, 'heapq': {'heappop', 'heappush'}}


def sources():
    return {path: path.read_text(encoding='ascii') for path in sorted(FOLDER.glob('*.py'))}


def trees():
    return {path: ast.parse(text) for path, text in sources().items()}


def nodes():
    return [(path, node) for path, tree in trees().items() for node in ast.walk(tree)]


def without_docstrings(tree):
    for node in ast.walk(tree):
        if isinstance(node, (ast.Module, ast.ClassDef, ast.FunctionDef)) and ast.get_docstring(node) is not None:
            node.body = node.body[1:]
    return tree


def bound_names(tree):
    """The names that a file binds at module level, with how often it does."""
    names = []
    for node in tree.body:
        if isinstance(node, (ast.FunctionDef, ast.ClassDef)):
            names.append(node.name)
        elif isinstance(node, ast.ImportFrom):
            names += [alias.name for alias in node.names]
        elif isinstance(node, ast.Assign):
            names += [target.id for target in node.targets]
    return names


class LanguageTest(unittest.TestCase):

    def test_folder(self):
        names = [path.name for path in FOLDER.iterdir() if path.name != '__pycache__']
        for name in names:
            self.assertRegex(name, r'^[a-z_][a-z0-9_]*\.py$')
            self.assertNotIn(name[:-3], BUILT_IN)
        self.assertLessEqual(len(names), 100)

    def test_signs_and_sizes(self):
        for path, text in sources().items():
            rows = text.split('\n')
            self.assertLessEqual(len(rows), 400, path)
            self.assertTrue(all(sign == '\n' or ' ' <= sign <= '~' for sign in text), path)
            self.assertTrue(all(len(row) <= 120 and row == row.rstrip() for row in rows), path)
            self.assertIsNone(re.search('_wall|_WallAttr', text))
        for path, node in nodes():
            if isinstance(node, ast.FunctionDef):
                self.assertLessEqual(node.end_lineno - node.lineno + 1, 40, (path, node.name))

    def test_statements_and_expressions(self):
        for path, node in nodes():
            where = (path.name, getattr(node, 'lineno', None))
            self.assertNotIsInstance(node, NOT_NODES, where)
            if isinstance(node, (ast.FunctionDef, ast.ClassDef)):
                told = [ast.unparse(name) for name in node.decorator_list]
                setter = f'{node.name}.setter'
                self.assertIn(told, [[], ['property'], ['staticmethod'], [setter]], where)
                self.assertIsNotNone(ast.get_docstring(node) or node.name in SPECIAL or told == [setter] or None, where)
            if isinstance(node, ast.Constant):
                self.assertNotIsInstance(node.value, (float, complex, bytes), where)
            if isinstance(node, ast.Compare):
                for sign, side in zip(node.ops, node.comparators):
                    if isinstance(sign, (ast.Is, ast.IsNot)):
                        self.assertTrue(isinstance(side, ast.Constant) and side.value in (None, True, False), where)

    def test_module_level(self):
        for path, tree in trees().items():
            for node in without_docstrings(tree).body:
                self.assertIsInstance(node, (ast.ImportFrom, ast.FunctionDef, ast.ClassDef, ast.Assign), path)
                if isinstance(node, ast.Assign):
                    self.assertEqual([type(target) for target in node.targets], [ast.Name], path)
            names = bound_names(tree)
            self.assertEqual(len(names), len(set(names)), path)

    def test_imports(self):
        needs = {}
        for path, tree in trees().items():
            needs[path.stem] = []
            for node in ast.walk(tree):
                if isinstance(node, ast.ImportFrom) and node.module in LIBRARY:
                    self.assertLessEqual({alias.name for alias in node.names}, LIBRARY[node.module])
                elif isinstance(node, ast.ImportFrom):
                    package, stem = node.module.split('.')
                    self.assertEqual((package, node.level), ('twinleaves', 0))
                    self.assertIn(node, tree.body)
                    needs[path.stem].append(stem)
                    defined = [name for name in bound_names(ast.parse((FOLDER / f'{stem}.py').read_text()))]
                    for alias in node.names:
                        self.assertIsNone(alias.asname)
                        self.assertIn(alias.name, defined)
                        other = ast.parse((FOLDER / f'{stem}.py').read_text())
                        brought = [each.name for one in other.body if isinstance(one, ast.ImportFrom)
                                   for each in one.names]
                        self.assertNotIn(alias.name, brought, path)
        while needs:
            free = [stem for stem, others in needs.items() if not [one for one in others if one in needs]]
            self.assertTrue(free, needs)
            for stem in free:
                del needs[stem]

    def test_imports_are_used(self):
        for path, tree in trees().items():
            used = {node.id for node in ast.walk(tree) if isinstance(node, ast.Name)}
            for node in tree.body:
                if isinstance(node, ast.ImportFrom):
                    self.assertEqual([alias.name for alias in node.names if alias.name not in used], [], path)

    def test_names(self):
        for path, tree in trees().items():
            names = bound_names(tree)
            fixed = {alias.name for node in tree.body if isinstance(node, ast.ImportFrom) for alias in node.names}
            fixed |= {node.name for node in tree.body if isinstance(node, ast.ClassDef)}
            self.assertEqual([name for name in names if name in BUILT_IN], [])
            for node in ast.walk(tree):
                where = (path.name, getattr(node, 'lineno', None))
                if isinstance(node, ast.Name) and isinstance(node.ctx, ast.Store) or isinstance(node, ast.arg):
                    name = node.id if isinstance(node, ast.Name) else node.arg
                    self.assertNotIn(name, fixed, where)
                    self.assertNotIn(name, BUILT_IN, where)
                    self.assertNotRegex(name, '^__', where)
                if isinstance(node, ast.Name) and node.id == '_':
                    self.assertIsInstance(node.ctx, ast.Store, where)
                if isinstance(node, ast.Name) and node.id in BUILT_IN:
                    self.assertIn(node.id, BUILTINS, where)

    def test_attributes_and_methods(self):
        classes = [node for _, node in nodes() if isinstance(node, ast.ClassDef)]
        methods = {part.name for node in classes for part in node.body if isinstance(part, ast.FunctionDef)}
        stored = {node.attr for _, node in nodes() if isinstance(node, ast.Attribute)
                  and isinstance(node.ctx, ast.Store)}
        self.assertEqual(stored & NOT_ATTRIBUTES, set())
        self.assertEqual((methods - SPECIAL) & (NOT_ATTRIBUTES | METHODS), {'count'})
        self.assertEqual({name for name in methods if name.startswith('__')} - SPECIAL, set())
        for node in classes:
            own = {part.name for part in node.body if isinstance(part, ast.FunctionDef)}
            self.assertEqual(own & {part.attr for part in ast.walk(node) if isinstance(part, ast.Attribute)
                                    and isinstance(part.ctx, ast.Store)}, set(), node.name)
        for path, node in nodes():
            where = (path.name, getattr(node, 'lineno', None))
            if isinstance(node, ast.Call) and isinstance(node.func, ast.Attribute):
                self.assertIn(node.func.attr, methods | METHODS, where)
            elif isinstance(node, ast.Attribute):
                self.assertIn(node.attr, stored | methods | METHODS | {'SIGNS', 'KINDS', 'setter'}, where)

    def test_static_methods(self):
        static, plain, stored, values, properties = set(), set(), set(), set(), set()
        kinds = {'': plain, 'staticmethod': static}
        for _, node in nodes():
            if isinstance(node, ast.ClassDef):
                for part in node.body:
                    if isinstance(part, ast.FunctionDef):
                        kinds.get(''.join(ast.unparse(name) for name in part.decorator_list), properties).add(part.name)
                    elif isinstance(part, ast.Assign):
                        values |= {target.id for target in part.targets}
            if isinstance(node, ast.Attribute) and isinstance(node.ctx, ast.Store):
                stored.add(node.attr)
        self.assertEqual(static & (plain | stored | values | properties | METHODS), set())
        self.assertEqual(values & (plain | stored | properties | METHODS), set())
        # A property that has a setter may be stored; none is, in the package.
        self.assertEqual((properties, properties & (plain | stored | METHODS)), ({'room', 'usual'}, set()))

    def test_names_of_methods_that_are_attributes(self):
        # Such a method is not read off a class, and not called where an operator runs.
        stored = {node.attr for _, node in nodes() if isinstance(node, ast.Attribute) and isinstance(node.ctx, ast.Store)}
        classes = {node.name for _, node in nodes() if isinstance(node, ast.ClassDef)}
        for path, node in nodes():
            if isinstance(node, ast.ClassDef):
                for part in node.body:
                    if isinstance(part, ast.FunctionDef) and part.name in SPECIAL - {'__init__', '__call__', '__len__'}:
                        called = [each.func.attr for each in ast.walk(part) if isinstance(each, ast.Call)
                                  and isinstance(each.func, ast.Attribute)]
                        self.assertEqual(set(called) & stored, set(), (path.name, node.name, part.name))
            if isinstance(node, ast.Attribute) and isinstance(node.value, ast.Name) and node.value.id in classes:
                self.assertIn(node.attr, ('__init__', 'SIGNS', 'KINDS'), path.name)

    def test_operators_change_nothing(self):
        for path, node in nodes():
            if isinstance(node, ast.ClassDef):
                for part in node.body:
                    if isinstance(part, ast.FunctionDef) and part.name in SPECIAL - {'__init__', '__call__', '__setitem__', '__ior__'}:
                        for each in ast.walk(part):
                            self.assertNotIsInstance(each, (ast.Assign, ast.AugAssign, ast.Delete, ast.For, ast.While),
                                                     (path.name, node.name, part.name))

    def test_tries(self):
        own = {node.name for node in ast.parse((FOLDER / 'errors.py').read_text()).body if isinstance(node, ast.ClassDef)}
        for path, node in nodes():
            if isinstance(node, ast.Try):
                for handler in node.handlers:
                    self.assertIn(handler.type.id, own, path.name)
                for row in node.finalbody:
                    self.assertIsInstance(row, ast.Assign, path.name)
                    self.assertTrue(all(isinstance(each, (ast.Assign, ast.Attribute, ast.Name, ast.Load, ast.Store))
                                        for each in ast.walk(row)), path.name)
                self.assertFalse([each for each in ast.walk(node) if isinstance(each, ast.Yield)])

    def test_generators_and_nested_functions(self):
        generators, functions, called = [], [], []
        for path, node in nodes():
            if isinstance(node, ast.FunctionDef):
                functions.append(node.name)
                nested = [each for each in ast.walk(node) if isinstance(each, ast.FunctionDef) and each is not node]
                for each in nested:
                    self.assertEqual([type(part) for part in without_docstrings(each).body if isinstance(part, ast.Nonlocal)],
                                     [type(part) for part in ast.walk(each) if isinstance(part, ast.Nonlocal)], path.name)
                if any(isinstance(each, ast.Yield) for each in ast.walk(node)):
                    generators.append(node.name)
            if isinstance(node, ast.Call) and isinstance(node.func, ast.Name):
                called.append(node.func.id)
        # The document has two generators of one name: all that are called walk yield.
        self.assertEqual(sorted(generators), ['changes', 'laid_runs', 'walk', 'walk'])
        self.assertEqual([functions.count(name) for name in generators], [generators.count(name) for name in generators])
        self.assertEqual(set(generators) & set(called), set())

    def test_sets(self):
        # Sets stand in len(..) and sorted(..) alone.
        for path, tree in trees().items():
            good = [part for node in ast.walk(tree) if isinstance(node, ast.Call) and isinstance(node.func, ast.Name)
                    and node.func.id in ('len', 'sorted') for part in node.args]
            for node in ast.walk(tree):
                is_call = isinstance(node, ast.Call) and isinstance(node.func, ast.Name) and node.func.id == 'set'
                if isinstance(node, ast.SetComp) or is_call:
                    self.assertIn(node, good, path.name)

    def test_names_in_comprehensions(self):
        kinds = (ast.ListComp, ast.DictComp, ast.SetComp)
        for path, node in nodes():
            if not isinstance(node, ast.FunctionDef):
                continue
            inner = [each for part in ast.walk(node) if isinstance(part, kinds) for each in ast.walk(part)]
            outer = {each.id for each in ast.walk(node) if isinstance(each, ast.Name) and isinstance(each.ctx, ast.Store)
                     and each not in inner}
            within = [each for part in ast.walk(node) if isinstance(part, kinds) for each in ast.walk(part)
                      if isinstance(each, kinds) and each is not part]
            for each in within:
                own = {name.id for one in each.generators for name in ast.walk(one.target) if isinstance(name, ast.Name)}
                elsewhere = [name.id for name in ast.walk(node) if isinstance(name, ast.Name) and name.id in own & outer
                             and name not in list(ast.walk(each))]
                self.assertEqual([name for name in elsewhere if name != '_'], [], (path.name, node.name))

    def test_strings(self):
        for path, tree in trees().items():
            for node in ast.walk(without_docstrings(tree)):
                if isinstance(node, ast.Constant) and isinstance(node.value, str):
                    self.assertNotIn('%', node.value, path)
                    self.assertNotRegex(node.value, r'\b(' + '|'.join(NOT_WORDS) + r')\b', path)
                    self.assertNotRegex(node.value, r'\._+$', path)
                if isinstance(node, ast.Name):
                    self.assertNotIn(node.id, NOT_WORDS, path)


if __name__ == '__main__':
    unittest.main()
