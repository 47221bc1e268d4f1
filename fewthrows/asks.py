"""Asks: which tuples are asks of a book, at whatever residues."""

from fewthrows.checks import are_residues, is_integer, is_residue
from fewthrows.errors import BadAsk

ASK_PARTS = {'line': 6, 'polynomial': 7, 'values': 4}
STEP_WORDS = {'line': 'line', 'polynomial': 'round', 'values': 'parts'}


def is_step(book, value):
    """Whether value is the number of a step."""
    return is_integer(value) and 0 <= value < len(book.plan.steps)


def is_of_form(book, ask):
    """Whether ask has a word that asks, so many parts, and the number of a step of its kind."""
    if not isinstance(ask, tuple) or len(ask) < 1 or not isinstance(ask[0], str):
        return False
    if len(ask) != ASK_PARTS.get(ask[0], 0) or not is_step(book, ask[-1]):
        return False
    return book.plan.steps[ask[-1]][0] == STEP_WORDS[ask[0]]


def is_line_ask(book, ask):
    """Whether ask, of the form of a line's, is one of this book."""
    function, one, other, degree = ask[1:-1]
    step = book.plan.steps[ask[-1]]
    many = len(book.reading.functions[step[1]].parameters)
    if not are_residues(book.prime, one, many, many) or not are_residues(book.prime, other, many, many):
        return False
    return function == step[1] and is_integer(degree) and degree == step[2]


def is_known(book, value):
    """Whether value is a tuple of a string and a residue."""
    if not isinstance(value, tuple) or len(value) != 2:
        return False
    return isinstance(value[0], str) and is_residue(book.prime, value[1])


def names_known(line, done):
    """The names that a line knows behind so many of its operators."""
    return line.parameters + tuple([name for word, name in line.operators[:done] if word != 'low'])


def is_polynomial_ask(book, ask):
    """Whether ask, of the form of a round's, is one of this book."""
    function, word, known, name, degree = ask[1:-1]
    step = book.plan.steps[ask[-1]]
    if not isinstance(known, tuple) or not all([is_known(book, part) for part in known]):
        return False
    line = book.reading.functions[step[1]]
    if tuple([part[0] for part in known]) != names_known(line, book.plan.done[ask[-1]]):
        return False
    if not is_integer(degree):
        return False
    return (function, word, name, degree) == step[1:]


def is_call(book, value):
    """Whether value is a tuple of a string and a tuple of residues."""
    if not isinstance(value, tuple) or len(value) != 2 or not isinstance(value[0], str):
        return False
    return isinstance(value[1], tuple) and are_residues(book.prime, value[1], 0, len(value[1]))


def is_point_of(arguments, point, names):
    """Whether the arguments can stand for the point.

    names tells for what each name stood so far; it is told what else is seen here.
    """
    if len(arguments) != len(point):
        return False
    for argument, residue in zip(arguments, point):
        expected = argument
        if isinstance(argument, str):
            expected = names.setdefault(argument, residue)
        if expected != residue:
            return False
    return True


def is_values_ask(book, ask):
    """Whether ask, of the form of one for values, is one of this book."""
    function, calls = ask[1:-1]
    step = book.plan.steps[ask[-1]]
    if function != step[1] or not isinstance(calls, tuple) or not all([is_call(book, part) for part in calls]):
        return False
    if len(calls) == 0 or [part[0] for part in calls] != [part[0] for part in step[2]]:
        return False
    names = {}
    return all([is_point_of(part[1], call[1], names) for part, call in zip(step[2], calls)])


def check_ask(book, ask):
    """Raise BadAsk unless ask is a line, polynomial or values ask of this book."""
    if not is_of_form(book, ask):
        raise BadAsk(ask)
    if ask[0] == 'line':
        right = is_line_ask(book, ask)
    elif ask[0] == 'polynomial':
        right = is_polynomial_ask(book, ask)
    else:
        right = is_values_ask(book, ask)
    if not right:
        raise BadAsk(ask)
