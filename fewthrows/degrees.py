"""Degrees, steps, and of how many rows of throws a wrong value can be let."""

from fewthrows.books import is_function
from fewthrows.checks import is_integer
from fewthrows.errors import BadName, BadWay
from fewthrows.plans import step_degree
from fewthrows.powers import power_of


def check_function(book, function):
    """Raise BadName unless function is the name of a function of the book."""
    if not is_function(book, function):
        raise BadName(function)


def degree_in(book, function, name):
    """The degree of a function in one of its parameters."""
    check_function(book, function)
    if name not in book.reading.functions[function].parameters:
        raise BadName(name)
    return book.plan.degrees[function][name]


def round_degrees(book, function):
    """For each operator of the function the degree of its round."""
    check_function(book, function)
    return book.plan.rounds[function]


def steps_of(book):
    """All steps of the talk about the result."""
    return book.plan.steps


def throws_many(book):
    """How many throws there are."""
    return book.plan.throws


def told_many(book):
    """How many residues the teller tells."""
    parts = [len(step[2]) for step in book.plan.steps if step[0] == 'parts']
    others = [step_degree(step) + 1 for step in book.plan.steps if step[0] != 'parts']
    return sum(parts) + sum(others)


def raw_rows_many(book):
    """How many rows of throws there are."""
    return power_of(book.prime, book.plan.throws)


def claims_behind(book, function):
    """For each call in the body of a function the claim that it makes: (function, number)."""
    claims = book.plan.claims
    calls = book.reading.functions[function].calls
    return [(call[0], claims[call[0]].index((function, call))) for call in calls]


def is_claim(value):
    """Whether value is a tuple of a string and an integer."""
    if not isinstance(value, tuple) or len(value) != 2:
        return False
    return isinstance(value[0], str) and is_integer(value[1])


def is_way(book, value):
    """Whether value is a way of the book."""
    if not isinstance(value, tuple) or not all([is_claim(part) for part in value]):
        return False
    next_ones = [(book.reading.result, 0)]
    for claim in value:
        if claim not in next_ones:
            return False
        next_ones = claims_behind(book, claim[0])
    return next_ones == []


def degrees_along(book, claim):
    """The degrees of all lines and rounds of a function that lie on a way with its claim."""
    function, number = claim
    lines = len(book.plan.claims[function]) - max(number, 1)
    return [book.plan.line_degree(function)] * lines + list(book.plan.rounds[function])


def caught_with(book, caught, claim):
    """What is caught of so many rows, if this claim lies on the way, too."""
    for degree in degrees_along(book, claim):
        # All rows are counted, so caught still has a whole factor prime for this throw.
        caught = caught // book.prime * (book.prime - min(degree, book.prime - 1))
    return caught


def worst_of(book):
    """What is caught on the worst way, and this way."""
    worst = {}
    for function in reversed(book.plan.reached):
        ways = [
            (caught_with(book, worst[claim[0]][0], claim), (claim,) + worst[claim[0]][1])
            for claim in claims_behind(book, function)
        ]
        worst[function] = min(ways) if len(ways) > 0 else (raw_rows_many(book), ())
    claim = (book.reading.result, 0)
    caught, way = worst[claim[0]]
    return caught_with(book, caught, claim), (claim,) + way


def number_along(book, way):
    """How many rows of throws the way does not catch."""
    if not is_way(book, way):
        raise BadWay(way)
    caught = raw_rows_many(book)
    for claim in way:
        caught = caught_with(book, caught, claim)
    return raw_rows_many(book) - caught


def number_of(book):
    """Of how many rows of throws a wrong value can be let at most."""
    return raw_rows_many(book) - worst_of(book)[0]


def worst_way(book):
    """The least of all ways whose number is the greatest one."""
    return worst_of(book)[1]


def is_plain(book):
    """Whether the result calls no functions, and its operators are sum and low alone."""
    line = book.reading.functions[book.reading.result]
    words = [word for word, name in line.operators if word not in ('sum', 'low')]
    return line.calls == () and words == []
