"""Circuits: layers of sums and products, and the books that tell their output."""

from fewthrows.checks import check_residue, is_integer
from fewthrows.errors import BadCircuit, BadNumber
from fewthrows.texts import number_in, prime_in, residue_in

INPUTS = (2, 4)
GATES = (1, 2, 4)
# With the lines of the prime and of the inputs ahead of three layers.
LAST_LINE = 5
SIGNS = ('+', '*')
LAYERS = 'abc'
# The figures of the bits of a layer, by its number of values.
BITS = {1: '', 2: 'a', 4: 'ab'}


def inputs_in(prime, words):
    """The residues that a line of inputs tells; None if it tells none."""
    inputs = tuple([residue_in(prime, word) for word in words[1:]])
    if words[0] != 'inputs' or len(inputs) not in INPUTS or None in inputs:
        return None
    return inputs


def gate_in(word, below):
    """The gate (sign, one, other) that the word tells over so many values; None if none."""
    places = [number_in(part) for part in word[1:].split(',')]
    if word[:1] not in SIGNS or len(places) != 2 or None in places or max(places) >= below:
        return None
    return (word[0], places[0], places[1])


def layer_in(words, below):
    """The gates that a line tells over so many values; None if it tells no layer."""
    gates = tuple([gate_in(word, below) for word in words[1:]])
    if words[0] != 'layer' or len(gates) not in GATES or None in gates:
        return None
    return gates


def layers_in(lines, inputs):
    """The layers that the lines tell, the third line first, over the inputs."""
    layers = []
    below = len(inputs)
    for number, words in enumerate(lines, start=3):
        gates = layer_in(words, below)
        if gates is None or below == 1 or (number == LAST_LINE and len(gates) > 1):
            raise BadCircuit(number)
        layers.append(gates)
        below = len(gates)
    if below > 1:
        raise BadCircuit(len(lines) + 3)
    return tuple(layers)


class Circuit:
    """A circuit."""

    def __init__(self, text):
        if not isinstance(text, str):
            raise BadCircuit(0)
        lines = [line.split(' ') for line in text.split('\n')]
        prime = prime_in(lines[0])
        if prime is None:
            raise BadCircuit(1)
        inputs = inputs_in(prime, lines[1]) if len(lines) > 1 else None
        if inputs is None:
            raise BadCircuit(2)
        self.text = text
        self.prime = prime
        self.inputs = inputs
        self.layers = layers_in(lines[2:], inputs)

    def __eq__(self, other):
        return isinstance(other, Circuit) and self.text == other.text


def layer_values(prime, gates, below):
    """The values of the gates over the values of the layer below."""
    values = []
    for sign, one, other in gates:
        value = below[one] + below[other] if sign == '+' else below[one] * below[other]
        values.append(value % prime)
    return tuple(values)


def with_layers(circuit, rows):
    """The rows of values that are told, and those of all layers above them."""
    rows = list(rows)
    for gates in circuit.layers[len(rows) - 1:]:
        rows.append(layer_values(circuit.prime, gates, rows[-1]))
    return tuple(rows)


def gate_values(circuit):
    """The inputs, and for each layer the values of its gates."""
    return with_layers(circuit, [circuit.inputs])


def check_number(value, many):
    """Raise BadNumber unless value is an integer from 0 on, below many."""
    if not is_integer(value) or not 0 <= value < many:
        raise BadNumber(value)


def bent_values(circuit, layer, gate, value):
    """The same as gate_values, where one gate has this value whatever it should have."""
    check_number(layer, len(circuit.layers))
    check_number(gate, len(circuit.layers[layer]))
    check_residue(circuit.prime, value)
    rows = list(gate_values(circuit)[:layer + 2])
    bent = rows.pop()
    rows.append(bent[:gate] + (value,) + bent[gate + 1:])
    return with_layers(circuit, rows)


def bits_of(letter, many):
    """The names of the bits that number so many values, the highest bit first."""
    return [letter + figure for figure in BITS[many]]


def table_line(name, sign, gates, below):
    """The line of the table that tells of which values each gate of this sign is made."""
    words = ['table', name]
    for gate in gates:
        for one in range(below):
            for other in range(below):
                words.append('1' if gate == (sign, one, other) else '0')
    return ' '.join(words)


def called(name, bits):
    """The call of name with these bits; a name alone has none."""
    return name + '[' + ','.join(bits) + ']'


def layer_line(letter, source, many, below):
    """The line of the function of a layer; source tells the values of the layer below."""
    bits = bits_of('z', many)
    left = bits_of('x', below)
    right = bits_of('y', below)
    one = called(source, left)
    other = called(source, right)
    added = called('add' + letter, bits + left + right) + '*(' + one + '+' + other + ')'
    multiplied = called('mul' + letter, bits + left + right) + '*' + one + '*' + other
    sums = [word for name in left + right for word in ('sum', name)]
    words = ['let', 'v' + letter] + bits + ['='] + sums + [':', added + '+' + multiplied]
    return ' '.join(words)


def circuit_book(circuit):
    """The text of a book whose result is the circuit's output."""
    lines = [
        'prime ' + str(circuit.prime),
        ' '.join(['table', 'vin'] + [str(residue) for residue in circuit.inputs]),
    ]
    source = 'vin'
    below = len(circuit.inputs)
    for letter, gates in zip(LAYERS, circuit.layers):
        lines.append(table_line('add' + letter, '+', gates, below))
        lines.append(table_line('mul' + letter, '*', gates, below))
        lines.append(layer_line(letter, source, len(gates), below))
        source = 'v' + letter
        below = len(gates)
    return '\n'.join(lines)
