"""The names, modules and parameters that the document's interface lists."""

import importlib
import inspect
import unittest

from fewthrows.books import Book
from fewthrows.circuits import Circuit
from fewthrows.sayings import Saying
from fewthrows.talks import Talk

FUNCTIONS = {
    'residues': {'inverse_of': 'prime residue'},
    'polynomials': {
        'value_at': 'prime poly residue',
        'poly_sum': 'prime one other',
        'poly_product': 'prime one other',
        'trimmed_poly': 'prime poly',
        'poly_through': 'prime points',
        'poly_with': 'prime noughts residue value',
        'noughts_of': 'prime poly',
        'agree_at': 'prime one other',
    },
    'tables': {
        'table_value': 'prime table point',
        'place_weight': 'prime place point',
        'folded_table': 'prime table residue',
        'along_line': 'prime table one other',
    },
    'books': {'value_of': 'book function point', 'result_of': 'book', 'calls_in': 'book function'},
    'degrees': {
        'degree_in': 'book function name',
        'round_degrees': 'book function',
        'steps_of': 'book',
        'throws_many': 'book',
        'told_many': 'book',
        'number_along': 'book way',
        'number_of': 'book',
        'worst_way': 'book',
        'is_plain': 'book',
    },
    'talks': {'right_claims': 'talk'},
    'tellers': {
        'honest_answer': 'book ask',
        'lucky_answer': 'talk',
        'judged': 'book value answers throws',
        'talk_of': 'book value answers throws',
    },
    'counts': {
        'passes': 'book value answers',
        'passing_rows': 'book value answers',
        'lucky_throws': 'book value answers throws',
        'repeated_share': 'share many',
        'led_share': 'one other',
        'greater_share': 'one other',
        'repeats_for': 'share bound',
    },
    'games': {'greatest_passes': 'book value', 'greatest_answers': 'book value'},
    'circuits': {
        'gate_values': 'circuit',
        'bent_values': 'circuit layer gate value',
        'circuit_book': 'circuit',
    },
    'sayings': {
        'is_true': 'saying',
        'body_text': 'saying',
        'saying_book': 'saying prime lowers',
        'full_lowers': 'saying',
        'least_lowers': 'saying most',
    },
}
# For each class its arguments, its methods with theirs, and its attributes.
CLASSES = {
    'books': {'Book': ('text', {'__len__': '', '__contains__': None, '__eq__': None}, 'text prime tables functions')},
    'talks': {
        'Talk': (
            'book value', {'hear': 'answer', 'throw': 'residue', 'copy': ''}, 'book value ask step throws claims'),
    },
    'circuits': {'Circuit': ('text', {'__eq__': None}, 'text prime inputs layers')},
    'sayings': {'Saying': ('text', {'__eq__': None}, 'text names wants')},
}
BOOK = 'prime 5\nlet f x = : x\nlet out = sum x : x'


class Interface(unittest.TestCase):
    def test_functions(self):
        for module, functions in FUNCTIONS.items():
            path = 'fewthrows.' + module
            for name, parameters in functions.items():
                with self.subTest(module=module, name=name):
                    function = getattr(importlib.import_module(path), name)
                    self.assertTrue(inspect.isfunction(function))
                    self.assertEqual(function.__module__, path)
                    self.check_parameters(function, parameters.split())

    def check_parameters(self, function, names):
        listed = inspect.signature(function).parameters
        self.assertEqual(list(listed), names)
        for parameter in listed.values():
            self.assertIs(parameter.kind, parameter.POSITIONAL_OR_KEYWORD)
            self.assertIs(parameter.default, parameter.empty)

    def test_classes(self):
        for module, classes in CLASSES.items():
            path = 'fewthrows.' + module
            for name, (parameters, methods, _) in classes.items():
                with self.subTest(module=module, name=name):
                    found = getattr(importlib.import_module(path), name)
                    self.assertTrue(inspect.isclass(found))
                    self.assertEqual(found.__module__, path)
                    self.check_parameters(found, parameters.split())
                    for method, names in methods.items():
                        # Defined in the class itself, not in a base class.
                        self.assertTrue(inspect.isfunction(vars(found)[method]))
                        if names is not None:
                            self.check_parameters(vars(found)[method], ['self'] + names.split())

    def test_attributes_are_set_on_objects(self):
        book = Book(BOOK)
        for made in (book, Talk(book, 1), Circuit('prime 3\ninputs 0 1\nlayer +0,1'), Saying('all x : x')):
            parts = CLASSES[made.__class__.__module__.split('.')[1]][made.__class__.__name__]
            for name in parts[2].split():
                self.assertIn(name, vars(made))


if __name__ == '__main__':
    unittest.main()
