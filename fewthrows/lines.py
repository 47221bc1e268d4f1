"""The lines of a book's text; each one that is not as told is a BadBook."""

from fewthrows.bodies import calls_of, program_of
from fewthrows.errors import BadBook
from fewthrows.tables import LENGTHS, names_many
from fewthrows.texts import is_name, prime_in, residue_in

OPERATORS = ('sum', 'all', 'some', 'low')
MOST_TABLES = 8
MOST_FUNCTIONS = 8
MOST_OPERATORS = 12


class Line:
    """What the line with this number tells of a function."""

    def __init__(self, number, parameters, operators, body, program):
        self.number = number
        self.parameters = parameters
        self.operators = operators
        self.body = body
        self.program = program
        self.calls = calls_of(program)


class Reading:
    """What the lines of a text, so far, tell: tables and functions by their names."""

    def __init__(self, prime):
        self.prime = prime
        self.tables = {}
        self.functions = {}
        # The name of the result; as long as there is none, ''.
        self.result = ''

    def arguments_of(self, name):
        """How many arguments this table or function has; None if it is neither."""
        if name in self.tables:
            return names_many(self.tables[name])
        if name in self.functions:
            return len(self.functions[name].parameters)
        return None

    def is_free(self, word):
        """Whether word is a name that no table and no function has."""
        return is_name(word) and word not in self.tables and word not in self.functions


def read_table(reading, number, words):
    """Take in a line that begins with table."""
    if len(words) < 2 or not reading.is_free(words[1]) or len(reading.tables) == MOST_TABLES:
        raise BadBook(number)
    table = tuple([residue_in(reading.prime, word) for word in words[2:]])
    if len(table) not in LENGTHS[1:] or None in table:
        raise BadBook(number)
    reading.tables[words[1]] = table


def operators_of(number, words):
    """The operators, (word, name), that these words make."""
    if len(words) % 2 == 1 or len(words) > 2 * MOST_OPERATORS:
        raise BadBook(number)
    return tuple([(words[at], words[at + 1]) for at in range(0, len(words), 2)])


def names_of(number, parameters, operators):
    """All names that a line with these parameters and operators knows."""
    if not all([is_name(name) for name in parameters]) or len(set(parameters)) < len(parameters):
        raise BadBook(number)
    names = list(parameters)
    for word, name in operators:
        # low takes a name that is known, each other word binds a new one.
        if word not in OPERATORS or not is_name(name) or (name in names) != (word == 'low'):
            raise BadBook(number)
        if word != 'low':
            names.append(name)
    return names


def read_function(reading, number, words):
    """Take in a line that begins with let."""
    if len(words) < 5 or '=' not in words or words[-2] != ':' or not reading.is_free(words[1]):
        raise BadBook(number)
    if len(reading.functions) == MOST_FUNCTIONS:
        raise BadBook(number)
    equals = words.index('=')
    parameters = tuple(words[2:equals])
    operators = operators_of(number, words[equals + 1:-2])
    names = names_of(number, parameters, operators)
    program = program_of(reading, number, names, words[-1])
    reading.functions[words[1]] = Line(number, parameters, operators, words[-1], program)
    if parameters == ():
        reading.result = words[1]


def read_line(reading, number, words):
    """Take in a line that is not the first one."""
    if reading.result != '':
        raise BadBook(number)
    if words[0] == 'table':
        read_table(reading, number, words)
    elif words[0] == 'let':
        read_function(reading, number, words)
    else:
        raise BadBook(number)


def reading_of(text):
    """What the text of a book tells, line by line."""
    if not isinstance(text, str):
        raise BadBook(0)
    lines = text.split('\n')
    prime = prime_in(lines[0].split(' '))
    if prime is None:
        raise BadBook(1)
    reading = Reading(prime)
    for number, line in enumerate(lines[1:], start=2):
        read_line(reading, number, line.split(' '))
    if reading.result == '':
        raise BadBook(len(lines) + 1)
    return reading
