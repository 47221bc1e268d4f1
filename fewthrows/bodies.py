"""Bodies: the last word of a function's line, read into a program.

A program is a tuple of orders for a stack, first ones first:

- ('number', residue) and ('name', name) put these on it;
- ('table', name, arguments) and ('call', name, arguments) put the value of this call of
  a table or a function on it; arguments is a tuple of names and residues;
- ('+',), ('-',) and ('*',) put one thing in the place of the last two;
- ('^', power) puts a power in the place of the last one.

The orders of names, residues and calls stand as these stand in the body.
"""

from fewthrows.errors import BadBook
from fewthrows.texts import FIGURES, LETTERS, residue_in

MOST_SIGNS = 200
MOST_BRACKETS = 10
POWERS = ('2', '3', '4')
# No body has it, so no rule takes it for a sign of the body.
END = '\n'


class BodyReader:
    """Reads one body from the left to the right; whatever is not as told is a BadBook."""

    def __init__(self, reading, number, names, body):
        self.reading = reading
        self.number = number
        self.names = names
        self.text = body + END
        self.place = 0
        self.orders = []

    def sign(self):
        """The sign at hand."""
        return self.text[self.place]

    def skip(self, sign):
        """Go behind this sign, which has to be at hand."""
        if self.sign() != sign:
            raise BadBook(self.number)
        self.place += 1

    def word(self, signs):
        """Go behind all of these signs that stand here; returns them."""
        start = self.place
        while self.sign() in signs:
            self.place += 1
        return self.text[start:self.place]

    def expression(self, depth):
        """Read an expression inside of so many brackets."""
        self.term(depth)
        while self.sign() in ('+', '-'):
            sign = self.sign()
            self.skip(sign)
            self.term(depth)
            self.orders.append((sign,))

    def term(self, depth):
        """Read a term."""
        self.factor(depth)
        while self.sign() == '*':
            self.skip('*')
            self.factor(depth)
            self.orders.append(('*',))

    def factor(self, depth):
        """Read a factor."""
        self.atom(depth)
        if self.sign() == '^':
            self.skip('^')
            power = self.sign()
            if power not in POWERS:
                raise BadBook(self.number)
            self.skip(power)
            self.orders.append(('^', int(power)))

    def atom(self, depth):
        """Read an atom."""
        if self.sign() in FIGURES:
            self.orders.append(('number', self.residue()))
        elif self.sign() in LETTERS:
            self.name_or_call()
        elif depth < MOST_BRACKETS:
            self.skip('(')
            self.expression(depth + 1)
            self.skip(')')
        else:
            raise BadBook(self.number)

    def residue(self):
        """Read a residue; returns it."""
        residue = residue_in(self.reading.prime, self.word(FIGURES))
        if residue is None:
            raise BadBook(self.number)
        return residue

    def name_or_call(self):
        """Read a name of this line, or a call."""
        name = self.word(LETTERS)
        if self.sign() == '[':
            self.call(name)
        elif name in self.names:
            self.orders.append(('name', name))
        else:
            raise BadBook(self.number)

    def call(self, name):
        """Read the arguments of a call of name."""
        self.skip('[')
        arguments = [self.argument()]
        while self.sign() == ',':
            self.skip(',')
            arguments.append(self.argument())
        self.skip(']')
        if self.reading.arguments_of(name) != len(arguments):
            raise BadBook(self.number)
        kind = 'table' if name in self.reading.tables else 'call'
        self.orders.append((kind, name, tuple(arguments)))

    def argument(self):
        """Read an argument; returns the name or the residue."""
        if self.sign() in FIGURES:
            return self.residue()
        name = self.word(LETTERS)
        if name not in self.names:
            raise BadBook(self.number)
        return name


def program_of(reading, number, names, body):
    """The program of the body of the line with this number, in which names are known."""
    if len(body) > MOST_SIGNS:
        raise BadBook(number)
    reader = BodyReader(reading, number, names, body)
    reader.expression(0)
    reader.skip(END)
    return tuple(reader.orders)


def calls_of(program):
    """The different calls of functions, (name, arguments), as they first stand."""
    calls = []
    for order in program:
        if order[0] == 'call' and order[1:] not in calls:
            calls.append(order[1:])
    return tuple(calls)
