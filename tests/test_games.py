"""The greatest number of rows over all tellers (points 9 and 3)."""

import functools
import itertools
import unittest

from fewthrows.books import Book, result_of
from fewthrows.counts import passes
from fewthrows.degrees import is_plain, number_of, round_degrees, steps_of, throws_many
from fewthrows.errors import BadResidue, HasCalls, TooMany
from fewthrows.games import greatest_answers, greatest_passes
from fewthrows.tellers import talk_of
from tests.reference import Reference, some_text
from tests.support import NO_NUMBERS, Wrong, numbers, said_by, try_by_position, try_wrong

BOOK = Book('prime 5\ntable t 1 2 3 4\nlet out = sum x sum y : t[x,y]')
NO_VALUES = NO_NUMBERS + [5, 6, 101, (0,), BOOK]
CASES = [
    Wrong(greatest_passes, {'book': BOOK, 'value': 1}, {'value': (BadResidue, NO_VALUES)}),
    Wrong(greatest_answers, {'book': BOOK, 'value': 1}, {'value': (BadResidue, NO_VALUES)}),
]


def result_line(book):
    return book.functions[-1]


class AllTellers:
    """The rows that tellers get let, by the rules of section 8, for a result that calls nothing."""

    def __init__(self, book):
        self.prime = book.prime
        self.ref = Reference(book.text)
        self.operators = result_line(book)[2]
        self.degrees = round_degrees(book, result_line(book)[0])

    def at(self, poly, residue):
        return sum(part * residue ** power for power, part in enumerate(poly)) % self.prime

    def polys(self, number):
        return itertools.product(range(self.prime), repeat=self.degrees[number] + 1)

    def keeps(self, poly, row, value):
        """Whether the answer keeps its check behind these throws, where value is claimed."""
        word, name = self.operators[len(row)]
        low, high = self.at(poly, 0), self.at(poly, 1)
        known = {bound: residue for (_, bound), residue in zip(self.operators, row)}
        made = {'sum': low + high, 'all': low * high, 'some': 1 - (1 - low) * (1 - high),
                'low': low + known.get(name, 0) * (high - low)}[word]
        return made % self.prime == value

    def lets(self, row, value):
        known = {bound: self.ref.poly(residue) for (_, bound), residue in zip(self.operators, row)}
        return int(self.ref.body(self.ref.result, known).constant() == value)

    def counts(self, row, value):
        """The numbers of rows, one for each teller from here on, each teller gone through."""
        if len(row) == len(self.operators):
            return [self.lets(row, value)]
        found = []
        for poly in self.polys(len(row)):
            if not self.keeps(poly, row, value):
                found.append(0)
                continue
            behind = [self.counts(row + (t,), self.at(poly, t)) for t in range(self.prime)]
            # A teller of a whole talk is a choice for each throw.
            found.extend(sum(choice) for choice in itertools.product(*[sorted(set(part)) for part in behind]))
        return found

    @functools.lru_cache(None)
    def greatest(self, row, value):
        if len(row) == len(self.operators):
            return self.lets(row, value)
        return max([sum(self.greatest(row + (t,), self.at(poly, t)) for t in range(self.prime))
                    for poly in self.polys(len(row)) if self.keeps(poly, row, value)] or [0])


def one_function_books(seeds, operators, words=('sum', 'all', 'some', 'low'), primes=(3, 3, 5, 7), many=2401):
    for seed in seeds:
        source = numbers(seed)
        prime = source.choice(primes)
        text = some_text(source, prime, 2, 1, operators=operators, words=words, most=2, depth=1, powers=(2,))
        book = Book(text)
        degrees = round_degrees(book, 'out')
        if prime ** len(degrees) <= 243 and max([prime ** (degree + 1) for degree in degrees] or [0]) <= many:
            yield source, book


class Arguments(unittest.TestCase):
    def test_each_alone(self):
        for case in CASES:
            try_wrong(self, case)

    def test_by_position_and_name(self):
        for case in CASES:
            try_by_position(self, case)

    def raised(self, book, value, error, told):
        for function in (greatest_passes, greatest_answers):
            raised = said_by(self, function, {'book': book, 'value': value})
            self.assertEqual((raised.__class__, raised.value), (error, told))

    def test_calls(self):
        head = 'prime 3\ntable t 1 2\nlet f x = : x\nlet g x = : f[x]\n'
        self.raised(Book(head + 'let out = sum x : t[x]+g[1]*f[x]'), 0, HasCalls, 'g')
        self.raised(Book(head + 'let out = : t[1]*(2-f[1])-g[1]'), 2, HasCalls, 'f')
        # Functions that the result does not call do not count; tables are none.
        self.assertEqual(greatest_passes(Book(head + 'let out = sum x : t[x]'), 0), 3)
        # The value comes first, the number of rows behind.
        far = Book(head + f"let out = {' '.join('sum ' + name for name in 'abcdefgh')} : g[1]")
        self.raised(far, 3, BadResidue, 3)
        self.raised(far, 0, HasCalls, 'g')

    def test_too_many_rows(self):
        for prime, rounds, good in ((3, 5, True), (3, 6, False), (5, 3, True), (5, 4, False), (13, 2, True), (17, 2, False),
                                    (241, 1, True), (251, 1, False), (1000003, 0, True), (7, 2, True), (7, 3, False)):
            sums = ''.join(f'sum {name} ' for name in 'abcdefgh'[:rounds])
            book = Book(f'prime {prime}\nlet out = {sums}: 1')
            if good:
                self.assertEqual(greatest_passes(book, result_of(book)), prime ** rounds)
                self.assertEqual(greatest_passes(book, (result_of(book) + 1) % prime), 0)
            else:
                self.raised(book, 0, TooMany, 243)
                self.raised(book, prime, BadResidue, prime)
        # Ahead of the degrees.
        self.raised(Book('prime 251\nlet out = sum x : x^4'), 0, TooMany, 243)

    def test_too_many_polynomials(self):
        for prime, degree, good in ((3, 6, True), (3, 7, False), (5, 3, True), (5, 4, False), (7, 3, True), (7, 4, False),
                                    (13, 2, True), (13, 3, False), (47, 1, True), (53, 1, False), (241, 0, True), (11, 2, True)):
            body = '*'.join(['x'] * degree) or '1'
            book = Book(f'prime {prime}\nlet out = sum x : {body}')
            if good:
                self.assertEqual(greatest_passes(book, (result_of(book) + 1) % prime), min(degree, prime - 1))
            else:
                self.raised(book, 0, TooMany, 2401)
        # One round is enough.
        self.raised(Book('prime 7\nlet out = sum x sum y : x*y^4'), 0, TooMany, 2401)
        self.raised(Book('prime 7\nlet out = sum x sum y : x^4*y'), 0, TooMany, 2401)


class Greatest(unittest.TestCase):
    def test_each_teller(self):
        # Two rounds over 3, of degrees 0 and 1: all tellers, one by one.
        tried = 0
        for source, book in one_function_books(range(600), operators=2, primes=(3,), many=9):
            if throws_many(book) < 2 and source.random() < 0.7:
                continue
            tellers = AllTellers(book)
            for value in range(3):
                self.assertEqual(greatest_passes(book, value), max(tellers.counts((), value)), (book.text, value))
            tried += 1
        self.assertGreater(tried, 30)

    def test_against_best_choices(self):
        less = 0
        for _, book in one_function_books(range(1000, 1120), operators=3, many=130):
            tellers = AllTellers(book)
            for value in range(book.prime):
                greatest = greatest_passes(book, value)
                self.assertEqual(greatest, tellers.greatest((), value), (book.text, value))
                if value == result_of(book):
                    self.assertEqual(greatest, book.prime ** throws_many(book))
                else:
                    self.assertLessEqual(greatest, number_of(book))
                    less += greatest < number_of(book)
                    if is_plain(book):
                        self.assertEqual(greatest, number_of(book))
        self.assertGreater(less, 10)

    def test_plain_books(self):
        tried = 0
        for _, book in one_function_books(range(2000, 2060), operators=3, words=('sum', 'low')):
            for value in range(min(book.prime, 7)):
                if value != result_of(book):
                    self.assertEqual(greatest_passes(book, value), number_of(book), book.text)
                    tried += 1
        self.assertGreater(tried, 60)

    def test_hangs_on_the_true_values(self):
        nought = Book('prime 3\ntable t 0 0\nlet out = all x : t[x]')
        self.assertEqual([greatest_passes(nought, value) for value in range(3)], [3, 0, 1])

    def test_no_rounds(self):
        for prime in (3, 101):
            book = Book(f'prime {prime}\nlet out = : 2')
            self.assertEqual([greatest_passes(book, value) for value in range(3)], [0, 0, 1])
            self.assertEqual([greatest_answers(book, value) for value in range(3)], [()] * 3)


class Answers(unittest.TestCase):
    def test_as_many_rows(self):
        tried = 0
        for _, book in one_function_books(range(3000, 3060), operators=3, many=400):
            for value in range(min(book.prime, 5)):
                answers = greatest_answers(book, value)
                self.assertIs(answers.__class__, tuple)
                self.assertEqual(passes(book, value, answers), greatest_passes(book, value), (book.text, value, answers))
                # It is an answer book of this book.
                self.assertEqual(talk_of(book, value, answers, ()).throws, ())
                tried += value != result_of(book) and passes(book, value, answers) > 0
                self.assertEqual(answers, greatest_answers(Book(book.text), value))
        self.assertGreater(tried, 40)

    def test_steps(self):
        answers = greatest_answers(BOOK, 1)
        self.assertEqual(passes(BOOK, 1, answers), 9)
        for (step, throws), answer in answers:
            self.assertEqual(step, len(throws))
            self.assertEqual(len(answer), steps_of(BOOK)[step][-1] + 1)


if __name__ == '__main__':
    unittest.main()
