"""Some rules of the language that can be seen in the files of the package."""

import ast
import builtins
import pathlib
import re
import unittest

PACKAGE = pathlib.Path(__file__).parent.parent / 'fewthrows'
LIBRARY = {'math': {'gcd', 'lcm', 'isqrt', 'comb', 'perm', 'factorial'}}
BUILTINS = set('''
len range enumerate zip min max sum abs sorted reversed int str bool bytes list tuple dict set frozenset isinstance
ord repr any all divmod pow map iter next Exception ValueError TypeError KeyError IndexError LookupError
ZeroDivisionError ArithmeticError OverflowError RuntimeError NotImplementedError AttributeError NotImplemented
'''.split())
METHODS = set('''
append clear copy count endswith extend find get index insert isalnum isalpha isdigit islower isspace isupper items
join keys ljust lower lstrip partition pop remove replace reverse rfind rjust rpartition rsplit rstrip setdefault split
splitlines startswith strip update upper values zfill bit_length add discard
'''.split())
KEYWORDS = {
    'sorted': {'key', 'reverse'}, 'min': {'key', 'default'}, 'max': {'key', 'default'}, 'sum': {'start'}, 'enumerate': {'start'},
}
BARRED_ATTRIBUTES = set('''
items keys values pop update append clear extend insert remove reverse setdefault sort args encode decode hex fromhex
format format_map mro register elements open input law as_integer_ratio bit_count conjugate from_bytes is_integer to_bytes
'''.split())
BARRED_NAMES = set(dir(builtins)) - {'_', '__doc__', '__name__'} | set('''
register mro elements open input law version_info attrgetter builtins gc importlib methodcaller os sys
'''.split())
BARRED_WORDS = set('''
type typing typing_extensions enum Enum IntEnum StrEnum Flag IntFlag Generic Protocol ABC ABCMeta namedtuple NamedTuple
TypedDict TYPE_CHECKING abstractmethod dataclass overload contextmanager
'''.split())
AT_MODULE_LEVEL = (ast.ImportFrom, ast.FunctionDef, ast.ClassDef, ast.Assign)


def is_docstring(node):
    return isinstance(node, ast.Expr) and isinstance(node.value, ast.Constant) and isinstance(node.value.value, str)


class Language(unittest.TestCase):
    def files(self):
        found = sorted(path for path in PACKAGE.rglob('*') if '__pycache__' not in path.parts)
        self.assertIn(PACKAGE / '__init__.py', found)
        return [(path, path.read_text('utf-8')) for path in found]

    def nodes(self, kinds):
        for path, text in self.files():
            for node in ast.walk(ast.parse(text)):
                if isinstance(node, kinds):
                    yield path, node

    def test_files(self):
        for path, text in self.files():
            self.assertEqual(path.suffix, '.py')
            self.assertTrue(re.fullmatch('[a-z0-9_]+', path.stem))
            self.assertTrue(re.fullmatch('[ -~\n]*', text))
            lines = text.split('\n')
            self.assertLessEqual(len(lines), 399)
            self.assertLessEqual(max(map(len, lines)), 120)

    def test_functions_are_small(self):
        for _, node in self.nodes(ast.FunctionDef):
            self.assertLessEqual(node.end_lineno - node.lineno + 1, 40, node.name)

    def test_module_level(self):
        for _, text in self.files():
            for node in ast.parse(text).body:
                self.assertTrue(isinstance(node, AT_MODULE_LEVEL) or is_docstring(node), ast.dump(node))

    def test_imports(self):
        for _, node in self.nodes((ast.Import, ast.ImportFrom)):
            self.assertIsInstance(node, ast.ImportFrom)
            self.assertEqual(node.level, 0)
            names = {alias.name for alias in node.names}
            if not node.module.startswith('fewthrows.'):
                self.assertLessEqual(names, LIBRARY[node.module])

    def test_builtins(self):
        for _, node in self.nodes(ast.Name):
            # doctest leaves a name _ among the builtins.
            if node.id != '_' and hasattr(builtins, node.id):
                self.assertIn(node.id, BUILTINS)
                self.assertIsInstance(node.ctx, ast.Load)

    def test_not_used(self):
        kinds = (ast.AsyncFunctionDef, ast.GeneratorExp, ast.Yield, ast.YieldFrom, ast.Global, ast.Import, ast.Div)
        self.assertEqual([ast.dump(node) for _, node in self.nodes(kinds)], [])

    def test_decorators_and_tries(self):
        for _, node in self.nodes(ast.FunctionDef):
            self.assertEqual(node.decorator_list, [])
            self.assertIsNone(node.args.vararg or node.args.kwarg)
            self.assertEqual(node.args.defaults + node.args.kwonlyargs + node.args.posonlyargs, [])
        self.assertEqual(list(self.nodes((ast.With, ast.Match, ast.Nonlocal, ast.Assert, ast.Delete, ast.JoinedStr))), [])
        own = {node.name for path, node in self.nodes(ast.ClassDef) if path.stem == 'errors'}
        for _, node in self.nodes(ast.Try):
            self.assertEqual(node.finalbody + node.orelse, [])
            for handler in node.handlers:
                self.assertIn(handler.type.id, own)

    def test_what_is_raised(self):
        own = {node.name for path, node in self.nodes(ast.ClassDef) if path.stem == 'errors'}
        for path, node in self.nodes(ast.Raise):
            self.assertIn(node.exc.func.id, own, path)
            self.assertEqual((len(node.exc.args), node.exc.keywords), (1, []))
            self.assertTrue(node.cause is None or node.cause.value is None)

    def test_stars_in_calls(self):
        for path, node in self.nodes(ast.Call):
            for part in node.args:
                if isinstance(part, ast.Starred):
                    self.assertIsInstance(part.value, ast.Name, path)
                    self.assertIn(node.func.id, ('zip', 'action'))

    def test_names_of_attributes(self):
        for _, node in self.nodes(ast.Attribute):
            if isinstance(node.ctx, ast.Store):
                self.assertNotIn(node.attr, BARRED_ATTRIBUTES)
                self.assertIsInstance(node.value, ast.Name)

    def test_names_of_methods(self):
        methods = {part.name for _, node in self.nodes(ast.ClassDef) for part in node.body if isinstance(part, ast.FunctionDef)}
        stored = {node.attr for _, node in self.nodes(ast.Attribute) if isinstance(node.ctx, ast.Store)}
        read = {node.attr for _, node in self.nodes(ast.Attribute)}
        self.assertEqual(methods & stored, set())
        self.assertLessEqual(read, methods | stored | METHODS)
        self.assertLessEqual({name for name in methods if name.startswith('__')}, {'__init__', '__eq__', '__len__', '__contains__'})

    def test_methods_that_are_called(self):
        own = {node.name for _, node in self.nodes(ast.FunctionDef)}
        for path, node in self.nodes(ast.Call):
            if isinstance(node.func, ast.Attribute):
                self.assertIn(node.func.attr, METHODS | own, path)
                self.assertEqual(node.keywords, [])

    def test_keywords_of_calls(self):
        for _, node in self.nodes(ast.Call):
            for keyword in node.keywords:
                self.assertIsInstance(node.func, ast.Name)
                self.assertIn(keyword.arg, KEYWORDS[node.func.id])

    def test_names_of_variables(self):
        for path, text in self.files():
            tree = ast.parse(text)
            top = [alias.name for node in tree.body if isinstance(node, ast.ImportFrom) for alias in node.names]
            top += [node.name for node in tree.body if isinstance(node, (ast.ClassDef, ast.FunctionDef))]
            top += [node.targets[0].id for node in tree.body if isinstance(node, ast.Assign)]
            self.assertEqual(len(top), len(set(top)), path)
            for node in ast.walk(tree):
                name = node.arg if isinstance(node, ast.arg) else getattr(node, 'id', None)
                if isinstance(node, ast.Name) and not isinstance(node.ctx, ast.Store) or name is None:
                    continue
                self.assertNotIn(name, BARRED_NAMES, path)
                if node not in [target for line in tree.body for target in getattr(line, 'targets', [])]:
                    self.assertNotIn(name, top, path)

    def test_imports_are_used_and_name_the_file(self):
        needs = {}
        for path, text in self.files():
            tree = ast.parse(text)
            used = {node.id for node in ast.walk(tree) if isinstance(node, ast.Name)}
            needs[path.stem] = set()
            for node in tree.body:
                if not isinstance(node, ast.ImportFrom):
                    continue
                self.assertLessEqual({alias.name for alias in node.names}, used, path)
                self.assertEqual([alias.asname for alias in node.names], [None] * len(node.names))
                if node.module.startswith('fewthrows.'):
                    other = node.module.split('.')[1]
                    needs[path.stem].add(other)
                    told = ast.parse((PACKAGE / (other + '.py')).read_text('utf-8')).body
                    defined = {part.name for part in told if isinstance(part, (ast.FunctionDef, ast.ClassDef))}
                    defined |= {part.targets[0].id for part in told if isinstance(part, ast.Assign)}
                    self.assertLessEqual({alias.name for alias in node.names}, defined, path)
        while needs:
            ready = [name for name, others in needs.items() if not others & set(needs)]
            self.assertNotEqual(ready, [], 'files import from each other')
            needs = {name: others for name, others in needs.items() if name not in ready}

    def test_strings(self):
        for path, text in self.files():
            tree = ast.parse(text)
            bodies = [node.body for node in ast.walk(tree) if isinstance(node, (ast.Module, ast.ClassDef, ast.FunctionDef))]
            told = [body[0].value for body in bodies if body and is_docstring(body[0])]
            for node in ast.walk(tree):
                if isinstance(node, ast.Constant) and isinstance(node.value, str) and node not in told:
                    self.assertNotIn('%', node.value)
                    self.assertFalse(set(re.findall('[A-Za-z_]+', node.value)) & BARRED_WORDS, path)

    def test_operators(self):
        self.assertEqual([node for _, node in self.nodes(ast.BinOp) if isinstance(node.op, ast.Pow)], [])
        for _, node in self.nodes(ast.Compare):
            for operator, right in zip(node.ops, node.comparators):
                if isinstance(operator, (ast.Is, ast.IsNot)):
                    self.assertIn(getattr(right, 'value', 0), (None, True, False))

    def test_sets(self):
        for path, text in self.files():
            for node in ast.walk(ast.parse(text)):
                is_set = isinstance(node, ast.Call) and ast.unparse(node.func) in ('set', 'frozenset')
                if is_set or isinstance(node, (ast.Set, ast.SetComp)):
                    segment = ast.get_source_segment(text, node)
                    self.assertRegex(text, r'(len|sorted)\(' + re.escape(segment), path)


if __name__ == '__main__':
    unittest.main()
