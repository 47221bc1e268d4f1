"""Books: tables and functions over a prime, and the value of the result."""

from fewthrows.checks import check_point
from fewthrows.errors import BadName
from fewthrows.lines import reading_of
from fewthrows.meanings import Meaning
from fewthrows.plans import plan_of
from fewthrows.rings import ResidueRing


class Book:
    """A book; reading and plan are for the package itself."""

    def __init__(self, text):
        self.reading = reading_of(text)
        self.plan = plan_of(self.reading)
        self.text = text
        self.prime = self.reading.prime
        self.tables = tuple(list(self.reading.tables.items()))
        self.functions = tuple([
            (name, line.parameters, line.operators, line.body)
            for name, line in self.reading.functions.items()
        ])

    def __eq__(self, other):
        return isinstance(other, Book) and self.text == other.text

    def __len__(self):
        return len(self.functions)

    def __contains__(self, value):
        if not isinstance(value, str):
            return False
        return value in self.reading.tables or value in self.reading.functions


def is_function(book, value):
    """Whether value is the name of a function of the book."""
    return isinstance(value, str) and value in book.reading.functions


def raw_called(book, name, point):
    """The value of a table or function at a point."""
    return Meaning(book.reading, ResidueRing(book.prime)).called(name, point)


def value_of(book, function, point):
    """The value of a table or function of the book at a point."""
    if function not in book:
        raise BadName(function)
    check_point(book.prime, point, book.reading.arguments_of(function))
    return raw_called(book, function, point)


def result_of(book):
    """The value of the result."""
    return raw_called(book, book.reading.result, ())


def calls_in(book, function):
    """The different calls of functions in the body of a function, in their order."""
    if not is_function(book, function):
        raise BadName(function)
    return book.reading.functions[function].calls
