"""Games: of all tellers, one whose wrong value is let by the most rows of throws."""

from fewthrows.checks import check_residue
from fewthrows.counts import check_rows_many
from fewthrows.errors import HasCalls, TooMany
from fewthrows.polynomials import raw_value
from fewthrows.powers import power_of
from fewthrows.rings import ResidueRing, joined
from fewthrows.talks import meaning_of

MOST_ROWS = 243
MOST_POLYNOMIALS = 2401


def polynomial_number(prime, many, number):
    """The polynomial with many coefficients and this number: its figures to the base prime."""
    poly = []
    for _ in range(many):
        poly.append(number % prime)
        number = number // prime
    return tuple(poly)


def polynomials_of(prime, degree):
    """All polynomials of this degree, each as (polynomial, its values at all residues)."""
    polys = [
        polynomial_number(prime, degree + 1, number)
        for number in range(power_of(prime, degree + 1))
    ]
    return [(poly, [raw_value(prime, poly, residue) for residue in range(prime)]) for poly in polys]


class Game:
    """The best that tellers can do in the talks about a result that calls no functions.

    best tells it for each row of throws so far: a list with, for each claimed value by
    then, (how many of the rows that begin so let it at most, a polynomial to be told).
    """

    def __init__(self, book):
        self.book = book
        self.line = book.reading.functions[book.reading.result]
        self.degrees = book.plan.rounds[book.reading.result]
        self.polys = {degree: polynomials_of(book.prime, degree) for degree in sorted(set(self.degrees))}
        self.best = {}
        self.find_best(())

    def names_at(self, row):
        """The residues of the names behind these throws."""
        names = {}
        for operator, residue in zip(self.line.operators, row):
            names[operator[1]] = residue
        return names

    def find_best(self, row):
        """Find the best behind this row, and behind all that begin with it."""
        if len(row) == len(self.degrees):
            true = meaning_of(self.book).body_value(self.line.program, self.names_at(row), {})
            self.best[row] = [(1 if value == true else 0, ()) for value in range(self.book.prime)]
            return
        behind = []
        for residue in range(self.book.prime):
            self.find_best(row + (residue,))
            behind.append([rows for rows, poly in self.best[row + (residue,)]])
        self.best[row] = self.best_of(row, behind)

    def best_of(self, row, behind):
        """The best at this row; behind tells for each throw, and each value then, how many rows let it."""
        prime = self.book.prime
        ring = ResidueRing(prime)
        word, name = self.line.operators[len(row)]
        at = self.names_at(row).get(name, 0)
        best = [(0, ())] * prime
        for poly, told in self.polys[self.degrees[len(row)]]:
            claimed = joined(ring, word, told[0], told[1], at)
            rows = sum([let[value] for let, value in zip(behind, told)])
            if rows > best[claimed][0]:
                best[claimed] = (rows, poly)
        return best

    def answers_from(self, row, value):
        """The answers of a best teller from this row on, where value is claimed by then."""
        poly = self.best[row][value][1]
        # Where nothing is let, the honest answer does as well; at the end nothing is asked.
        if poly == ():
            return []
        answers = [((len(row), row), poly)]
        for residue in range(self.book.prime):
            told = raw_value(self.book.prime, poly, residue)
            answers.extend(self.answers_from(row + (residue,), told))
        return answers


def game_of(book, value):
    """The game about the book's result, unless it is too great."""
    check_residue(book.prime, value)
    calls = book.reading.functions[book.reading.result].calls
    if len(calls) > 0:
        raise HasCalls(calls[0][0])
    check_rows_many(book, MOST_ROWS)
    for degree in book.plan.rounds[book.reading.result]:
        if power_of(book.prime, degree + 1) > MOST_POLYNOMIALS:
            raise TooMany(MOST_POLYNOMIALS)
    return Game(book)


def greatest_passes(book, value):
    """How many rows of throws let the value at most, over all tellers."""
    return game_of(book, value).best[()][value][0]


def greatest_answers(book, value):
    """An answer book against which the value is let by the most rows of throws."""
    return tuple(game_of(book, value).answers_from((), value))
