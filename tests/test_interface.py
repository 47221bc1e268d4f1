"""The names, modules and parameters that the document's interface lists."""

import importlib
import inspect
import unittest

FUNCTIONS = {
    'residues': {'inverse_of': 'prime residue'},
    'polynomials': {
        'value_at': 'prime poly residue',
        'poly_sum': 'prime one other',
        'poly_product': 'prime one other',
        'trimmed_poly': 'prime poly',
        'poly_through': 'prime points',
        'poly_with': 'prime noughts residue value',
        'noughts_of': 'prime poly',
        'agree_at': 'prime one other',
    },
    'tables': {
        'table_value': 'prime table point',
        'place_weight': 'prime place point',
        'folded_table': 'prime table residue',
        'along_line': 'prime table one other',
    },
}


class Interface(unittest.TestCase):
    def test_functions(self):
        for module, functions in FUNCTIONS.items():
            path = 'fewthrows.' + module
            for name, parameters in functions.items():
                with self.subTest(module=module, name=name):
                    function = getattr(importlib.import_module(path), name)
                    self.assertTrue(inspect.isfunction(function))
                    self.assertEqual(function.__module__, path)
                    listed = inspect.signature(function).parameters
                    self.assertEqual(list(listed), parameters.split())
                    for parameter in listed.values():
                        self.assertIs(parameter.kind, parameter.POSITIONAL_OR_KEYWORD)
                        self.assertIs(parameter.default, parameter.empty)


if __name__ == '__main__':
    unittest.main()
