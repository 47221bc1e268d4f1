"""Some rules of the language that can be seen in the files of the package."""

import ast
import builtins
import pathlib
import re
import unittest

PACKAGE = pathlib.Path(__file__).parent.parent / 'fewthrows'
LIBRARY = {'math': {'gcd', 'lcm', 'isqrt', 'comb', 'perm', 'factorial'}}
BUILTINS = set('''
len range enumerate zip min max sum abs sorted reversed int str bool bytes list tuple dict set frozenset isinstance
ord repr any all divmod pow map iter next Exception ValueError TypeError KeyError IndexError LookupError
ZeroDivisionError ArithmeticError OverflowError RuntimeError NotImplementedError AttributeError NotImplemented
'''.split())
AT_MODULE_LEVEL = (ast.ImportFrom, ast.FunctionDef, ast.ClassDef, ast.Assign)


def is_docstring(node):
    return isinstance(node, ast.Expr) and isinstance(node.value, ast.Constant) and isinstance(node.value.value, str)


class Language(unittest.TestCase):
    def files(self):
        found = sorted(path for path in PACKAGE.rglob('*') if '__pycache__' not in path.parts)
        self.assertIn(PACKAGE / '__init__.py', found)
        for path in found:
            with self.subTest(file=path.name):
                yield path, path.read_text('utf-8')

    def nodes(self, kinds):
        for path, text in self.files():
            for node in ast.walk(ast.parse(text)):
                if isinstance(node, kinds):
                    yield path, node

    def test_files(self):
        for path, text in self.files():
            self.assertEqual(path.suffix, '.py')
            self.assertTrue(re.fullmatch('[a-z0-9_]+', path.stem))
            self.assertTrue(re.fullmatch('[ -~\n]*', text))
            lines = text.split('\n')
            self.assertLessEqual(len(lines), 399)
            self.assertLessEqual(max(map(len, lines)), 120)

    def test_functions_are_small(self):
        for _, node in self.nodes(ast.FunctionDef):
            self.assertLessEqual(node.end_lineno - node.lineno + 1, 40, node.name)

    def test_module_level(self):
        for _, text in self.files():
            for node in ast.parse(text).body:
                self.assertTrue(isinstance(node, AT_MODULE_LEVEL) or is_docstring(node), ast.dump(node))

    def test_imports(self):
        for _, node in self.nodes((ast.Import, ast.ImportFrom)):
            self.assertIsInstance(node, ast.ImportFrom)
            self.assertEqual(node.level, 0)
            names = {alias.name for alias in node.names}
            if not node.module.startswith('fewthrows.'):
                self.assertLessEqual(names, LIBRARY[node.module])

    def test_builtins(self):
        for _, node in self.nodes(ast.Name):
            if hasattr(builtins, node.id):
                self.assertIn(node.id, BUILTINS)
                self.assertIsInstance(node.ctx, ast.Load)

    def test_not_used(self):
        kinds = (ast.AsyncFunctionDef, ast.GeneratorExp, ast.Yield, ast.YieldFrom, ast.Global, ast.Import, ast.Div)
        self.assertEqual([ast.dump(node) for _, node in self.nodes(kinds)], [])


if __name__ == '__main__':
    unittest.main()
