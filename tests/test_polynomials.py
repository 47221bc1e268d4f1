"""Polynomials (point 4)."""

import itertools
import unittest

from fewthrows.errors import BadNoughts, BadPoints, BadPolynomial, BadPrime, BadResidue, TooGreat
from fewthrows.polynomials import (
    agree_at, noughts_of, poly_product, poly_sum, poly_through, poly_with, trimmed_poly, value_at,
)
from tests.support import (
    NO_NUMBERS, NO_PRIMES, Wrong, numbers, residues, said_by, try_by_position, try_order, try_wrong, value_by_powers,
)

PRIMES = (3, 5, 7, 11, 101, 1009, 1013, 999983, 1000003)
BAD_RESIDUE = (BadResidue, NO_NUMBERS + [7, 8, 1000003])
BAD_POLY = (BadPolynomial, NO_NUMBERS + [0, 1, (7,), (0, 7), (1, 2, 8), (0,) * 201, [1, 2, 3], (0,) * 200 + (7,)])
BAD_POINTS = (BadPoints, NO_NUMBERS + [
    1, (1, 2), ((1, 2), 3), ((1, 2), (3,)), ((1, 2), (3, 4, 5)), ((1, 2), [3, 4]), [(1, 2)], ((1, 2), (1, 2)),
    ((1, 2), (3, 4), (1, 5)), ((1, 7),), ((7, 1),), ((1, 2), (3, -1)), ((-1, 2),), ((True, 2),), ((1, False),),
    ((1, None),), (('1', 2),), ((1, 2), ()), (({}, 1),), ((1, []), (1, [])), (([], 1), ([], 1)), {(1, 2): 1},
    ((0, 0), (1, 1), (2, 2), (3, 3), (4, 4), (5, 5), (6, 6), (0, 1)),
])
BAD_NOUGHTS = (BadNoughts, [wrong for wrong in NO_NUMBERS if wrong != ()] + [
    0, 1, (7,), (0, 7), (1, 0), (1, 1), (0, 2, 1), (0, 1, 1), (0, 0, 1), (2, 1, 0), [0, 1], (0, 1, 2, 3, 4, 5, 6, 7),
    (0,) * 200,
])
PRIME = (BadPrime, NO_PRIMES)

CASES = [
    Wrong(value_at, {'prime': 7, 'poly': (1, 2, 3), 'residue': 2},
          {'prime': PRIME, 'poly': BAD_POLY, 'residue': BAD_RESIDUE}),
    Wrong(poly_sum, {'prime': 7, 'one': (1, 2), 'other': (6, 0, 4)},
          {'prime': PRIME, 'one': BAD_POLY, 'other': BAD_POLY}),
    Wrong(poly_product, {'prime': 7, 'one': (1, 2), 'other': (6, 1)},
          {'prime': PRIME, 'one': BAD_POLY, 'other': BAD_POLY}),
    Wrong(trimmed_poly, {'prime': 7, 'poly': (5, 0, 0)}, {'prime': PRIME, 'poly': BAD_POLY}),
    Wrong(poly_through, {'prime': 7, 'points': ((0, 1), (1, 3), (2, 0))}, {'prime': PRIME, 'points': BAD_POINTS}),
    Wrong(poly_with, {'prime': 7, 'noughts': (0, 2), 'residue': 1, 'value': 3}, {
        'prime': PRIME, 'noughts': BAD_NOUGHTS,
        'residue': (BadResidue, BAD_RESIDUE[1] + [0, 2]), 'value': BAD_RESIDUE,
    }),
    Wrong(noughts_of, {'prime': 7, 'poly': (1, 1, 1)}, {'prime': PRIME, 'poly': BAD_POLY}),
    Wrong(agree_at, {'prime': 7, 'one': (1, 2), 'other': (3, 1)},
          {'prime': PRIME, 'one': BAD_POLY, 'other': BAD_POLY}),
]


def all_polynomials(prime, many):
    return itertools.product(range(prime), repeat=many)


class WrongValues(unittest.TestCase):
    def test_each_alone(self):
        for case in CASES:
            try_wrong(self, case)

    def test_first_is_told(self):
        for case in CASES:
            try_order(self, case)

    def test_by_position_and_name(self):
        for case in CASES:
            try_by_position(self, case)

    def test_residues_hang_on_the_prime(self):
        self.assertEqual(value_at(1000003, (1000002,), 0), 1000002)
        for prime in PRIMES:
            for poly in ((prime,), (0, prime), (0, prime - 1, -1)):
                raised = said_by(self, trimmed_poly, {'prime': prime, 'poly': poly})
                self.assertIs(raised.__class__, BadPolynomial)
                self.assertIs(raised.value, poly)
            self.assertEqual(trimmed_poly(prime, (prime - 1,)), (prime - 1,))


class Values(unittest.TestCase):
    def test_value_at(self):
        source = numbers(1)
        for prime in PRIMES:
            for many in (1, 2, 3, 7, 199, 200):
                poly = residues(source, prime, many)
                for residue in (0, 1, 2, prime - 1, source.randrange(prime)):
                    self.assertEqual(value_at(prime, poly, residue), value_by_powers(prime, poly, residue))

    def test_noughts_behind(self):
        for residue in range(5):
            self.assertEqual(value_at(5, (3, 0), residue), 3)
            self.assertEqual(value_at(5, (3,), residue), 3)
            self.assertEqual(value_at(5, (3, 1) + (0,) * 198, residue), (3 + residue) % 5)

    def test_sum_and_product(self):
        source = numbers(2)
        for prime in PRIMES:
            for left, right in ((1, 1), (1, 4), (4, 1), (3, 3), (100, 101), (101, 100), (1, 200), (200, 1)):
                one, other = residues(source, prime, left), residues(source, prime, right)
                both, times = poly_sum(prime, one, other), poly_product(prime, one, other)
                self.assertIs(both.__class__, tuple)
                self.assertIs(times.__class__, tuple)
                self.assertEqual(len(both), max(left, right))
                self.assertEqual(len(times), left + right - 1)
                padded = [(*poly, *(0,) * 200) for poly in (one, other)]
                self.assertEqual(both, tuple((a + b) % prime for a, b in zip(*padded))[:len(both)])
                for power, part in enumerate(times):
                    pairs = [(k, power - k) for k in range(left) if 0 <= power - k < right]
                    self.assertEqual(part, sum(one[a] * other[b] for a, b in pairs) % prime)

    def test_sum_keeps_its_length(self):
        self.assertEqual(poly_sum(7, (1, 2), (6, 5)), (0, 0))
        self.assertEqual(poly_sum(7, (0, 0, 0), (1,)), (1, 0, 0))
        self.assertEqual(poly_product(7, (0,), (1, 2, 3)), (0, 0, 0))
        self.assertEqual(poly_product(7, (2, 0), (3, 0)), (6, 0, 0))
        self.assertEqual(len(poly_sum(3, (1,) * 200, (2,) * 200)), 200)

    def test_trimmed(self):
        self.assertEqual(trimmed_poly(7, (0,)), (0,))
        self.assertEqual(trimmed_poly(7, (0, 0, 0)), (0,))
        self.assertEqual(trimmed_poly(7, (0,) * 200), (0,))
        self.assertEqual(trimmed_poly(7, (0, 1)), (0, 1))
        self.assertEqual(trimmed_poly(7, (0, 3, 0, 2, 0, 0)), (0, 3, 0, 2))
        self.assertEqual(trimmed_poly(7, (4,) + (0,) * 199), (4,))
        self.assertEqual(trimmed_poly(7, (1, 2, 3)), (1, 2, 3))


class Through(unittest.TestCase):
    def test_through(self):
        source = numbers(3)
        for prime in PRIMES:
            for many in (1, 2, 3, 5, 8, 40, 200):
                if many <= prime:
                    firsts = source.sample(range(prime), many)
                    points = tuple((first, source.randrange(prime)) for first in firsts)
                    poly = poly_through(prime, points)
                    self.assertIs(poly.__class__, tuple)
                    self.assertEqual(len(poly), many)
                    for first, second in points:
                        self.assertEqual(value_by_powers(prime, poly, first), second)
                    self.assertTrue(all(0 <= part < prime for part in poly))

    def test_through_finds_each_polynomial(self):
        for poly in all_polynomials(3, 3):
            points = tuple((residue, value_by_powers(3, poly, residue)) for residue in (2, 0, 1))
            self.assertEqual(poly_through(3, points), poly)
        self.assertEqual(poly_through(3, ((0, 0), (1, 0), (2, 0))), (0, 0, 0))
        self.assertEqual(poly_through(5, ((4, 2),)), (2,))

    def test_too_many_points(self):
        self.assertEqual(poly_through(1009, tuple((k, k) for k in range(200))), (0, 1) + (0,) * 198)
        points = tuple((k, k) for k in range(201))
        raised = said_by(self, poly_through, {'prime': 1009, 'points': points})
        self.assertIs(raised.__class__, BadPoints)
        self.assertIs(raised.value, points)

    def test_with(self):
        source = numbers(5)
        for prime in PRIMES:
            for many in (0, 1, 2, 3, 8, 199):
                if many < prime:
                    chosen = source.sample(range(prime), many + 1)
                    residue, noughts = chosen[0], tuple(sorted(chosen[1:]))
                    for value in (0, 1, prime - 1, source.randrange(prime)):
                        poly = poly_with(prime, noughts, residue, value)
                        self.assertIs(poly.__class__, tuple)
                        self.assertEqual(len(poly), many + 1)
                        self.assertEqual(value_by_powers(prime, poly, residue), value)
                        for nought in noughts:
                            self.assertEqual(value_by_powers(prime, poly, nought), 0)
        self.assertEqual(poly_with(7, (), 4, 5), (5,))
        self.assertEqual(poly_with(7, (0, 2), 1, 0), (0, 0, 0))

    def test_with_edges(self):
        for noughts, residue, error, value in (
            (tuple(range(200)), 500, BadNoughts, tuple(range(200))),
            (tuple(range(199)), 198, BadResidue, 198),
            ((0, 1, 2), 0, BadResidue, 0),
        ):
            raised = said_by(self, poly_with, {'prime': 1009, 'noughts': noughts, 'residue': residue, 'value': -1})
            self.assertIs(raised.__class__, error)
            self.assertEqual(raised.value, value)
        for residue in range(3):
            raised = said_by(self, poly_with, {'prime': 3, 'noughts': (0, 1, 2), 'residue': residue, 'value': 1})
            self.assertIs(raised.__class__, BadResidue)


class Noughts(unittest.TestCase):
    def test_noughts(self):
        source = numbers(6)
        for prime in (3, 5, 7, 11, 101, 997, 1009):
            for many in (1, 2, 3, 5, 20, 200):
                poly = residues(source, prime, many)
                found = noughts_of(prime, poly)
                self.assertIs(found.__class__, tuple)
                self.assertEqual(found, tuple(x for x in range(prime) if value_at(prime, poly, x) == 0))
            self.assertEqual(noughts_of(prime, (0, 0)), tuple(range(prime)))
            self.assertEqual(noughts_of(prime, (1,)), ())
            self.assertEqual(noughts_of(prime, (0, 1, 0)), (0,))

    def test_all_residues_without_all_coefficients_0(self):
        for prime in (3, 5, 7, 11, 101, 197):
            poly = (0, prime - 1) + (0,) * (prime - 2) + (1,)
            self.assertEqual(noughts_of(prime, poly), tuple(range(prime)))

    def test_agree(self):
        source = numbers(7)
        for prime in (3, 5, 7, 11, 101, 997, 1009):
            for left, right in ((1, 1), (1, 3), (3, 1), (4, 4), (20, 2), (200, 199)):
                one, other = residues(source, prime, left), residues(source, prime, right)
                found = agree_at(prime, one, other)
                self.assertIs(found.__class__, tuple)
                same = [x for x in range(prime) if value_at(prime, one, x) == value_at(prime, other, x)]
                self.assertEqual(found, tuple(same))
                self.assertEqual(agree_at(prime, other, one), found)
            self.assertEqual(agree_at(prime, (2,), (2, 0, 0)), tuple(range(prime)))
            self.assertEqual(agree_at(prime, (1,), (2,)), ())

    def test_few_noughts(self):
        for prime, many in ((3, 1), (3, 2), (3, 3), (5, 2), (5, 3), (7, 2)):
            polys = list(all_polynomials(prime, many))
            for poly in polys:
                if any(poly):
                    self.assertLessEqual(len(noughts_of(prime, poly)), many - 1)
            for one, other in itertools.product(polys[::3], polys[1::4]):
                if one != other:
                    self.assertLessEqual(len(agree_at(prime, one, other)), many - 1)

    def test_too_great(self):
        self.assertEqual(noughts_of(1009, (1008, 1)), (1,))
        self.assertEqual(agree_at(1009, (5,), (0, 1)), (5,))
        for prime in (1013, 999983, 1000003):
            raised = said_by(self, noughts_of, {'prime': prime, 'poly': (0,)})
            self.assertIs(raised.__class__, TooGreat)
            self.assertEqual(raised.value, 1009)
            raised = said_by(self, agree_at, {'prime': prime, 'one': (0,), 'other': (1,)})
            self.assertIs(raised.__class__, TooGreat)
            self.assertEqual(raised.value, 1009)

    def test_too_great_comes_last(self):
        for wrong in ((), (0,) * 201, (1013,), (0, -1), [1], (True,), None, True, '1', {}):
            for function, arguments in (
                (noughts_of, {'poly': wrong}),
                (agree_at, {'one': wrong, 'other': (-1,)}),
                (agree_at, {'one': (1,), 'other': wrong}),
            ):
                raised = said_by(self, function, {'prime': 1013, **arguments})
                self.assertIs(raised.__class__, BadPolynomial)
                self.assertIs(raised.value, wrong)
        raised = said_by(self, noughts_of, {'prime': 1015, 'poly': (0,)})
        self.assertIs(raised.__class__, BadPrime)


if __name__ == '__main__':
    unittest.main()
