"""Circuits (points 10 and 3)."""

import copy
import itertools
import re
import unittest

from fewthrows.books import Book, calls_in, result_of, value_of
from fewthrows.circuits import Circuit, bent_values, circuit_book, gate_values
from fewthrows.degrees import number_of, round_degrees, steps_of, throws_many
from fewthrows.errors import BadCircuit, BadNumber, BadResidue
from fewthrows.tellers import judged
from tests.support import DEEP, NO_NUMBERS, Wrong, numbers, said_by, try_by_position, try_order, try_wrong

TEXT = 'prime 7\ninputs 2 3\nlayer +0,1 *0,1\nlayer *0,1'
CIRCUIT = Circuit(TEXT)
NO_GATES = NO_NUMBERS + [2, 3, 4, 100, CIRCUIT, (0,)]
CASES = [
    Wrong(bent_values, {'circuit': CIRCUIT, 'layer': 0, 'gate': 1, 'value': 0},
          {'layer': (BadNumber, NO_GATES), 'gate': (BadNumber, NO_GATES), 'value': (BadResidue, NO_NUMBERS + [7, 8, CIRCUIT])}),
]
NAMES = {1: '', 2: 'a', 4: 'ab'}


def some_circuit(source, prime=None, layers=None):
    prime = prime or source.choice((3, 5, 7, 101, 1000003))
    below = source.choice((2, 4))
    lines = [f'prime {prime}', ' '.join(['inputs'] + [str(source.randrange(prime)) for _ in range(below)])]
    layers = layers or source.randint(1, 3)
    for at in range(layers):
        many = 1 if at == layers - 1 else source.choice((2, 4))
        gates = [f'{source.choice("+*")}{source.randrange(below)},{source.randrange(below)}' for _ in range(many)]
        lines.append(' '.join(['layer'] + gates))
        below = many
    return '\n'.join(lines)


def values_by_rule(text, bent=None):
    """The values of all gates, straight from the text; bent is (layer, gate, value)."""
    lines = [line.split(' ') for line in text.split('\n')]
    prime = int(lines[0][1])
    rows = [[int(word) for word in lines[1][1:]]]
    for layer, line in enumerate(lines[2:]):
        row = []
        for number, gate in enumerate(line[1:]):
            one, other = (rows[-1][int(part)] for part in gate[1:].split(','))
            value = (one + other if gate[0] == '+' else one * other) % prime
            row.append(bent[2] if bent and bent[:2] == (layer, number) else value)
        rows.append(row)
    return tuple(map(tuple, rows))


def bad_line(text):
    """The number that BadCircuit tells, by patterns for whole texts; None for a circuit."""
    lines = text.split('\n')
    number = '(?:0|[1-9][0-9]{0,8})'
    below = 0
    for at, line in enumerate(lines, 1):
        if at == 1:
            good = re.fullmatch(f'prime {number}', line) and all(
                int(line[6:]) % part for part in range(2, 1010) if part < int(line[6:])) and 3 <= int(line[6:]) <= 1000003
            prime = int(line[6:]) if good else 0
        elif at == 2:
            good = re.fullmatch(f'inputs( {number})+', line) and line.count(' ') in (2, 4)
            good = good and all(int(word) < prime for word in line.split(' ')[1:])
            below = line.count(' ')
        else:
            good = below > 1 and re.fullmatch(f'layer( [+*]{number},{number})+', line)
            good = good and line.count(' ') in ((1,) if at == 5 else (1, 2, 4))
            good = good and all(int(word) < below for word in re.findall('[0-9]+', line))
            below = line.count(' ')
        if not good:
            return at
    return None if below == 1 and len(lines) > 2 else len(lines) + 1


def number_of_bad(text):
    try:
        Circuit(text)
    except BadCircuit as error:
        return error.value
    return None


class Arguments(unittest.TestCase):
    def test_each_alone(self):
        for case in CASES:
            try_wrong(self, case)

    def test_first_is_told(self):
        for case in CASES:
            try_order(self, case)

    def test_by_position_and_name(self):
        for case in CASES:
            try_by_position(self, case)
        for function in (gate_values, circuit_book):
            self.assertEqual(function(CIRCUIT), function(circuit=CIRCUIT))
        self.assertEqual(Circuit(text=TEXT), CIRCUIT)

    def test_text_is_a_string(self):
        for value in [wrong for wrong in NO_NUMBERS if not isinstance(wrong, str)] + [0, 1, [TEXT], (TEXT,), CIRCUIT, DEEP]:
            with self.assertRaises(BadCircuit) as caught:
                Circuit(value)
            self.assertEqual((caught.exception.value.__class__, caught.exception.value), (int, 0))

    def test_numbers_of_layers_and_gates(self):
        text = 'prime 5\ninputs 1 2 3 4\nlayer +0,1 *1,2 +2,3 *3,0\nlayer +0,1 *2,3\nlayer +0,1'
        circuit = Circuit(text)
        for layer in range(-1, 5):
            for gate in range(-1, 6):
                many = (4, 2, 1)[layer] if 0 <= layer < 3 else 0
                arguments = {'circuit': circuit, 'layer': layer, 'gate': gate, 'value': 3}
                if 0 <= gate < many:
                    self.assertEqual(bent_values(**arguments), values_by_rule(text, (layer, gate, 3)))
                else:
                    raised = said_by(self, bent_values, arguments)
                    self.assertIs(raised.__class__, BadNumber)
                    self.assertEqual(raised.value, gate if many else layer)


class Texts(unittest.TestCase):
    def bad(self, number, *texts):
        for text in texts:
            with self.subTest(text=text):
                self.assertEqual(number_of_bad(text), number)
                self.assertEqual(bad_line(text), number)

    def test_lines(self):
        good = TEXT.split('\n')
        for at in range(1, 4):
            self.bad(at + 1, '\n'.join(good[:at]))
        self.bad(1, '', 'prime', 'prime 9', 'prime 2', 'prime 07', 'prime 7 ', ' prime 7', 'prime  7', 'Prime 7', 'prime -7', 'prime 7 7',
                 'inputs 1 2', 'prime 1000005', 'prime ', 'prime x', 'prime 0', 'prime 1')
        for line in ('', 'inputs', 'inputs 1', 'inputs 1 2 3', 'inputs 1 2 3 4 5', 'inputs 1 7', 'inputs 01 2', 'inputs 1 -2', 'inputs 1  2',
                     'inputs 1 2 ', ' inputs 1 2', 'input 1 2', 'inputs 1,2', 'inputs 1 x', 'layer +0,1', 'prime 7', 'inputs 1 2 3 4 5 6 0 1'):
            self.bad(2, 'prime 7\n' + line, 'prime 7\n' + line + '\nlayer +0,1')
        for line in ('', 'layer', 'layer ', 'layer +0,2', 'layer +2,0', 'layer -0,1', 'layer 0,1', 'layer +0', 'layer +0,1,1', 'layer +0,', 'layer +,1',
                     'layer +00,1', 'layer +0,01', 'layer +0, 1', 'layer + 0,1', 'layer +0,1 ', 'layer  +0,1', ' layer +0,1', 'layers +0,1', 'Layer +0,1',
                     'layer +0,1 *0,1 +1,1', 'layer +0,1 +0,1 +0,1 +0,1 +0,1', 'layer +0,-1', 'layer ++0,1', 'layer +0.1', 'layer +a,b', 'inputs 1 2',
                     'layer +0,1000000000', 'layer +0,1 +0,2', 'layer +0,1 x', 'layer +', 'layer ,', 'prime 7'):
            self.bad(3, 'prime 7\ninputs 2 3\n' + line, 'prime 7\ninputs 2 3\n' + line + '\nlayer +0,0')

    def test_behind_the_output(self):
        for line in ('', 'layer +0,0', 'layer *0,0 +0,0', 'x', 'layer'):
            self.bad(4, 'prime 7\ninputs 2 3\nlayer +0,1\n' + line)
            self.bad(5, TEXT + '\n' + line, TEXT + '\n' + line + '\n')
            self.bad(6, 'prime 7\ninputs 2 3\nlayer +0,1 +1,1\nlayer *0,0 +1,1\nlayer +0,1\n' + line)

    def test_how_many_layers(self):
        two = 'prime 7\ninputs 2 3\nlayer +0,1 +1,1\nlayer *0,0 +1,1'
        self.bad(5, two, two + '\nlayer +0,1 +0,1', two + '\nlayer +0,1 +0,1\nlayer +0,0', two + '\n', two + '\nlayer +0,0 *1,1 +0,0 *1,1')
        self.bad(None, two + '\nlayer +0,0', TEXT, 'prime 3\ninputs 0 2\nlayer *1,1')

    def test_changed_by_a_sign(self):
        bad = 0
        for seed in range(60):
            source = numbers(seed)
            text = some_circuit(source, 7)
            self.bad(None, text)
            for _ in range(30):
                at = source.randrange(len(text) + 1)
                sign = source.choice(['', ' ', '\n', '0', '1', '3', '7', '+', '*', ',', '-', 'l', '\nlayer +0,0', ' +0,1', ' 3'])
                changed = text[:at] + sign + text[at + source.randint(0, 1):]
                self.assertEqual(number_of_bad(changed), bad_line(changed), changed)
                bad += bad_line(changed) is not None
        self.assertGreater(bad, 1000)

    def test_attributes(self):
        text = 'prime 5\ninputs 1 2 3 4\nlayer +0,1 *1,2 +2,3 *3,0\nlayer +3,3 *2,3\nlayer *0,1'
        circuit = Circuit(text)
        self.assertEqual((circuit.text, circuit.prime, circuit.inputs), (text, 5, (1, 2, 3, 4)))
        self.assertEqual(circuit.layers, (
            (('+', 0, 1), ('*', 1, 2), ('+', 2, 3), ('*', 3, 0)), (('+', 3, 3), ('*', 2, 3)), (('*', 0, 1),)))
        for name in ('text', 'prime', 'inputs', 'layers'):
            self.assertIn(name, vars(circuit))

    def test_equal(self):
        self.assertTrue(CIRCUIT == Circuit(TEXT))
        self.assertFalse(CIRCUIT != Circuit(TEXT))
        self.assertEqual(CIRCUIT, copy.deepcopy(CIRCUIT))
        for value in (Circuit(TEXT.replace('2 3', '3 2')), Circuit(TEXT.replace('layer *0,1', 'layer *1,0')), TEXT, None, 0, (TEXT,), object(),
                      Book('prime 3\nlet a = : 1')):
            self.assertFalse(CIRCUIT == value)
            self.assertTrue(CIRCUIT != value)


class Values(unittest.TestCase):
    def test_gates(self):
        for seed in range(200):
            text = some_circuit(numbers(seed))
            values = gate_values(Circuit(text))
            self.assertEqual(values, values_by_rule(text))
            self.assertIs(values.__class__, tuple)
            self.assertEqual({row.__class__ for row in values}, {tuple})

    def test_the_same_gate_twice(self):
        circuit = Circuit('prime 7\ninputs 3 5\nlayer *1,1 *1,1 +0,0 *1,1\nlayer +0,3 *1,1\nlayer +0,0')
        self.assertEqual(gate_values(circuit), ((3, 5), (4, 4, 6, 4), (1, 2), (2,)))

    def test_bent(self):
        for seed in range(100):
            source = numbers(seed)
            text = some_circuit(source)
            circuit = Circuit(text)
            for layer, gates in enumerate(circuit.layers):
                for gate in range(len(gates)):
                    value = source.randrange(circuit.prime)
                    self.assertEqual(bent_values(circuit, layer, gate, value), values_by_rule(text, (layer, gate, value)))
                    true = gate_values(circuit)[layer + 1][gate]
                    self.assertEqual(bent_values(circuit, layer, gate, true), gate_values(circuit))


class Books(unittest.TestCase):
    def text_by_rule(self, circuit):
        """The text of the book, as section 10 tells it."""
        lines = [f'prime {circuit.prime}', 'table vin ' + ' '.join(map(str, circuit.inputs))]
        below = len(circuit.inputs)
        source = 'vin'
        for letter, gates in zip('abc', circuit.layers):
            z, x, y = ([sign + figure for figure in NAMES[many]] for sign, many in (('z', len(gates)), ('x', below), ('y', below)))
            for name, sign in (('add', '+'), ('mul', '*')):
                places = itertools.product(range(len(gates)), range(below), range(below))
                table = [str(int(gates[at] == (sign, one, other))) for at, one, other in places]
                lines.append(f'table {name}{letter} {" ".join(table)}')
            bits, left, right = ','.join(z + x + y), f"{source}[{','.join(x)}]", f"{source}[{','.join(y)}]"
            head = ' '.join(['let', 'v' + letter] + z + ['='] + [f'sum {name}' for name in x + y])
            lines.append(f'{head} : add{letter}[{bits}]*({left}+{right})+mul{letter}[{bits}]*{left}*{right}')
            source, below = 'v' + letter, len(gates)
        return '\n'.join(lines)

    def test_texts(self):
        for seed in range(100):
            circuit = Circuit(some_circuit(numbers(seed)))
            self.assertEqual(circuit_book(circuit), self.text_by_rule(circuit))

    def test_four_by_four(self):
        text = 'prime 5\ninputs 1 2 3 4\nlayer +0,1 *1,2 +2,3 *3,0\nlayer +3,0'
        lines = circuit_book(Circuit(text)).split('\n')
        self.assertEqual(lines[1], 'table vin 1 2 3 4')
        # Gate 1 is *1,2: place 01 01 10; gate 3 is *3,0: place 11 11 00.
        ones = [at for at, word in enumerate(lines[3].split(' ')[2:]) if word == '1']
        self.assertEqual(ones, [0b010110, 0b111100])
        self.assertEqual([at for at, word in enumerate(lines[2].split(' ')[2:]) if word == '1'], [0b000001, 0b101011])
        self.assertEqual(lines[4], 'let va za zb = sum xa sum xb sum ya sum yb : adda[za,zb,xa,xb,ya,yb]*(vin[xa,xb]+vin[ya,yb])'
                                   '+mula[za,zb,xa,xb,ya,yb]*vin[xa,xb]*vin[ya,yb]')
        self.assertEqual(lines[7], 'let vb = sum xa sum xb sum ya sum yb : addb[xa,xb,ya,yb]*(va[xa,xb]+va[ya,yb])'
                                   '+mulb[xa,xb,ya,yb]*va[xa,xb]*va[ya,yb]')
        self.assertEqual(len(lines), 8)

    def test_results(self):
        for seed in range(60):
            circuit = Circuit(some_circuit(numbers(seed)))
            book = Book(circuit_book(circuit))
            values = gate_values(circuit)
            self.assertEqual(result_of(book), values[-1][0])
            for letter, row in zip('abc', values[1:]):
                for number, value in enumerate(row):
                    many = len(NAMES[len(row)])
                    bits = tuple(number >> at & 1 for at in reversed(range(many)))
                    self.assertEqual(value_of(book, 'v' + letter, bits), value)

    def test_numbers(self):
        for seed in range(100):
            circuit = Circuit(some_circuit(numbers(seed)))
            book = Book(circuit_book(circuit))
            p, r = circuit.prime, throws_many(book)
            rounds = sum(step[0] == 'round' for step in steps_of(book))
            caught = (p - 2) ** rounds
            for gates in circuit.layers[:-1]:
                caught *= p - len(NAMES[len(gates)])
            self.assertEqual(number_of(book), p ** r - caught)
            for line in book.functions:
                self.assertEqual(set(round_degrees(book, line[0])), {2})
                self.assertEqual(len(calls_in(book, line[0])), 0 if line[0] == 'va' else 2)
            self.assertEqual(sum(step[0] == 'line' for step in steps_of(book)), len(circuit.layers) - 1)

    def test_talks(self):
        for seed in range(8):
            source = numbers(seed)
            circuit = Circuit(some_circuit(source, layers=source.randint(1, 2)))
            book = Book(circuit_book(circuit))
            output = gate_values(circuit)[-1][0]
            row = tuple(source.randrange(circuit.prime) for _ in range(throws_many(book)))
            self.assertEqual(judged(book, output, (), row), ('over', 'let'))
            self.assertEqual(judged(book, (output + 1) % circuit.prime, (), row)[:2], ('over', 'refused'))


if __name__ == '__main__':
    unittest.main()
