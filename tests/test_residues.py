"""Primes and residues (points 2 and 4): inverse_of."""

import unittest

from fewthrows.errors import BadPrime, BadResidue
from fewthrows.residues import inverse_of
from tests.support import NO_NUMBERS, NO_PRIMES, Wrong, numbers, try_by_position, try_order, try_wrong

CASES = [
    Wrong(inverse_of, {'prime': 7, 'residue': 3}, {
        'prime': (BadPrime, NO_PRIMES),
        'residue': (BadResidue, NO_NUMBERS + [0, 7, 8]),
    }),
    Wrong(inverse_of, {'prime': 1000003, 'residue': 1000002}, {
        'prime': (BadPrime, NO_PRIMES),
        'residue': (BadResidue, NO_NUMBERS + [0, 1000003]),
    }),
]


def odd_primes(most):
    """The odd primes up to most, by crossing out multiples."""
    crossed = bytearray(most + 1)
    for number in range(2, most + 1):
        if not crossed[number]:
            if number > 2:
                yield number
            for other in range(number * number, most + 1, number):
                crossed[other] = 1


class Primes(unittest.TestCase):
    def lets(self, number):
        try:
            return inverse_of(number, 1) == 1
        except BadPrime as error:
            self.assertIs(error.value, number)
            return False

    def test_small_and_great(self):
        primes = set(odd_primes(1000003))
        self.assertIn(1000003, primes)
        for number in [*range(-9, 5000), *range(994000, 994020), *range(999900, 1000200)]:
            with self.subTest(number=number):
                self.assertEqual(self.lets(number), number in primes)

    def test_squares_and_products(self):
        primes = [prime for prime in odd_primes(1000)]
        for prime in primes:
            self.assertFalse(self.lets(prime * prime))
            self.assertFalse(self.lets(prime * 3))
            self.assertFalse(self.lets(prime * 2))
            self.assertFalse(self.lets(prime * primes[-1]))
        self.assertFalse(self.lets(101 * 9901))

    def test_below_nought(self):
        for number in (-1, -3, -7, -1000003):
            self.assertFalse(self.lets(number))


class Inverses(unittest.TestCase):
    def test_all_of_small_primes(self):
        for prime in odd_primes(101):
            for residue in range(1, prime):
                inverse = inverse_of(prime, residue)
                self.assertIs(inverse.__class__, int)
                self.assertTrue(0 < inverse < prime)
                self.assertEqual(inverse * residue % prime, 1)

    def test_great_primes(self):
        source = numbers(4)
        for prime in (1009, 65537, 999983, 1000003):
            for residue in [1, 2, prime - 1, prime - 2, (prime + 1) // 2] + [source.randrange(1, prime) for _ in range(50)]:
                self.assertEqual(inverse_of(prime, residue), pow(residue, -1, prime))
            self.assertEqual(inverse_of(prime, prime - 1), prime - 1)

    def test_nought_and_the_prime(self):
        for prime in (3, 5, 7, 11, 1000003):
            for wrong in (0, prime, prime + 1, -1):
                with self.assertRaises(BadResidue) as caught:
                    inverse_of(prime, wrong)
                self.assertIs(caught.exception.value, wrong)

    def test_wrong_values(self):
        for case in CASES:
            try_wrong(self, case)
            try_order(self, case)
            try_by_position(self, case)


if __name__ == '__main__':
    unittest.main()
