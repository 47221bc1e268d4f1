"""The names, modules and parameters that the document's interface lists."""

import importlib
import inspect
import unittest

from fewthrows.books import Book
from fewthrows.circuits import Circuit
from fewthrows.desk import Desk
from fewthrows.machines import Machine
from fewthrows.sayings import Saying
from fewthrows.streams import Watch
from fewthrows.talks import Talk

FUNCTIONS = {
    'residues': {'inverse_of': 'prime residue'},
    'polynomials': {
        'value_at': 'prime poly residue',
        'poly_sum': 'prime one other',
        'poly_product': 'prime one other',
        'trimmed_poly': 'prime poly',
        'poly_through': 'prime points',
        'poly_with': 'prime noughts residue value',
        'noughts_of': 'prime poly',
        'agree_at': 'prime one other',
    },
    'tables': {
        'table_value': 'prime table point',
        'place_weight': 'prime place point',
        'folded_table': 'prime table residue',
        'along_line': 'prime table one other',
    },
    'books': {'value_of': 'book function point', 'result_of': 'book', 'calls_in': 'book function'},
    'degrees': {
        'degree_in': 'book function name',
        'round_degrees': 'book function',
        'steps_of': 'book',
        'throws_many': 'book',
        'told_many': 'book',
        'number_along': 'book way',
        'number_of': 'book',
        'worst_way': 'book',
        'is_plain': 'book',
    },
    'talks': {'right_claims': 'talk'},
    'tellers': {
        'honest_answer': 'book ask',
        'lucky_answer': 'talk',
        'judged': 'book value answers throws',
        'talk_of': 'book value answers throws',
    },
    'counts': {
        'passes': 'book value answers',
        'passing_rows': 'book value answers',
        'lucky_throws': 'book value answers throws',
        'repeated_share': 'share many',
        'led_share': 'one other',
        'greater_share': 'one other',
        'repeats_for': 'share bound',
    },
    'games': {'greatest_passes': 'book value', 'greatest_answers': 'book value'},
    'circuits': {
        'gate_values': 'circuit',
        'bent_values': 'circuit layer gate value',
        'circuit_book': 'circuit',
    },
    'sayings': {
        'is_true': 'saying',
        'body_text': 'saying',
        'saying_book': 'saying prime lowers',
        'full_lowers': 'saying',
        'least_lowers': 'saying most',
    },
    'products': {
        'matrix_product': 'prime one other',
        'matrix_times': 'prime one vector',
        'reduced_rows': 'prime one',
        'matrix_rank': 'prime one',
        'lets_vector': 'prime one other claim vector',
        'vectors_letting': 'prime one other claim',
        'letting_rows': 'prime one other claim',
        'lets_pair': 'prime one other claim left right',
        'pairs_letting': 'prime one other claim',
        'lets_power': 'prime one other claim residue',
        'powers_letting': 'prime one other claim',
        'chain_product': 'prime matrices',
        'lets_chain': 'prime matrices claim vector',
        'chain_work': 'prime matrices',
    },
    'lists': {
        'same_pile': 'prime one other',
        'pile_value': 'prime entries residue',
        'lets_pile': 'prime one other residue',
        'piles_letting': 'prime one other',
        'grown_value': 'prime value residue entry',
        'lets_merged': 'prime one other both residue',
        'lets_sorted': 'prime one other residue',
        'lets_each_once': 'prime entries residue',
        'folded_rows': 'prime rows residue',
        'lets_rows': 'prime one other y z',
        'throws_letting': 'prime one other',
        'rows_bound': 'prime many width',
        'lets_shuffle': 'prime one other places y z',
    },
    'stores': {
        'plain_answers': 'values job',
        'first_wrong': 'values job answers',
        'tallies': 'values job answers',
        'cells_told': 'prime values job answers y z',
        'store_rows_let': 'prime values job answers',
        'store_bound': 'prime many',
        'burnt_answers': 'prime values job y z',
    },
    'machines': {
        'plain_run': 'machine values many',
        'step_fits': 'machine state pair later',
        'looked_at': 'machine values run',
        'run_cells': 'machine values run y z',
    },
    'streams': {
        'changed_book': 'book changes',
        'knowing_answers': 'book value throws',
        'shows_knowing': 'book value throws answers',
    },
    'threelooks': {
        'straight_table': 'many mask',
        'pairs_let': 'bits',
        'straight_distances': 'bits',
        'nearest_straight': 'bits',
        'mended_bits': 'bits',
        'rows_let': 'bits many',
    },
    'journals': {'journal': 'desk', 'read_journal': 'text'},
}
# For each class its arguments, its methods with theirs, and its attributes.
CLASSES = {
    'books': {'Book': ('text', {'__len__': '', '__contains__': None, '__eq__': None}, 'text prime tables functions')},
    'talks': {
        'Talk': (
            'book value', {'hear': 'answer', 'throw': 'residue', 'copy': ''}, 'book value ask step throws claims'),
    },
    'circuits': {'Circuit': ('text', {'__eq__': None}, 'text prime inputs layers')},
    'sayings': {'Saying': ('text', {'__eq__': None}, 'text names wants')},
    'machines': {'Machine': ('text', {'__len__': '', '__eq__': None}, 'text prime places rows')},
    'streams': {
        'Watch': ('book throws', {'change': 'table place by', 'joined': 'other', 'talk': 'value'}, 'book cells spent'),
        # Made by talk alone: how it is called is not said.
        'KeptTalk': (None, {'hear': 'answer'}, 'ask told'),
    },
    'desk': {
        'Desk': (
            '', {
                'do': 'deed', 'book_at': 'name', 'talk_at': 'name', 'back': 'many', 'on': 'many', 'mark': 'word', 'to': 'word',
                'all_let': 'names', 'any_let': 'names',
            }, 'deeds undone books talks marks'),
    },
}
BOOK = 'prime 5\nlet f x = : x\nlet out = sum x : x'


class Interface(unittest.TestCase):
    def test_functions(self):
        for module, functions in FUNCTIONS.items():
            path = 'fewthrows.' + module
            for name, parameters in functions.items():
                with self.subTest(module=module, name=name):
                    function = getattr(importlib.import_module(path), name)
                    self.assertTrue(inspect.isfunction(function))
                    self.assertEqual(function.__module__, path)
                    self.check_parameters(function, parameters.split())

    def check_parameters(self, function, names):
        listed = inspect.signature(function).parameters
        self.assertEqual(list(listed), names)
        for parameter in listed.values():
            self.assertIs(parameter.kind, parameter.POSITIONAL_OR_KEYWORD)
            self.assertIs(parameter.default, parameter.empty)

    def test_classes(self):
        for module, classes in CLASSES.items():
            path = 'fewthrows.' + module
            for name, (parameters, methods, _) in classes.items():
                with self.subTest(module=module, name=name):
                    found = getattr(importlib.import_module(path), name)
                    self.assertTrue(inspect.isclass(found))
                    self.assertEqual(found.__module__, path)
                    if parameters is not None:
                        self.check_parameters(found, parameters.split())
                    for method, names in methods.items():
                        # Defined in the class itself, not in a base class.
                        self.assertTrue(inspect.isfunction(vars(found)[method]))
                        if names is not None:
                            self.check_parameters(vars(found)[method], ['self'] + names.split())

    def test_attributes_are_set_on_objects(self):
        book = Book(BOOK)
        watch = Watch(book, (2,))
        others = [Circuit('prime 3\ninputs 0 1\nlayer +0,1'), Saying('all x : x'), Machine('prime 3\nplaces 1\nhalt'), Desk()]
        for made in [book, Talk(book, 1), watch, watch.joined(watch), watch.talk(1)] + others:
            parts = CLASSES[made.__class__.__module__.split('.')[1]][made.__class__.__name__]
            for name in parts[2].split():
                self.assertIn(name, vars(made))


if __name__ == '__main__':
    unittest.main()
