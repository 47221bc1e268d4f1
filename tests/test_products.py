"""Products of matrices (points 12 and 3)."""

import itertools
import unittest

from fewthrows.errors import BadMatrices, BadMatrix, BadPrime, BadResidue, BadShape, BadVector, TooGreat
from fewthrows.products import (
    chain_product, chain_work, lets_chain, lets_pair, lets_power, lets_vector, letting_rows, matrix_product, matrix_rank,
    matrix_times, pairs_letting, powers_letting, reduced_rows, vectors_letting,
)
from tests.support import NO_NUMBERS, NO_PRIMES, TriedCases, Wrong, numbers, residues, said_by

PRIMES = (3, 5, 7, 101, 1009, 1000003)
ONE, OTHER, CLAIM = ((1, 2), (3, 4)), ((1, 0, 2), (1, 1, 0)), ((3, 2, 2), (2, 4, 0))
# No value of NO_NUMBERS but ((1,),) is a matrix.
NO_MATRICES = [value for value in NO_NUMBERS if value != ((1,),)] + [
    0, 1, (1, 2), ((1, 2), (3,)), ((1,), (2, 3)), ((1, 2), (3, 5)), ((1, 2), (3, -1)), ((1, True), (3, 4)), ((1, 2), [3, 4]), [(1, 2), (3, 4)],
    ((1, 2), (3, None)), ((1, 2), ()), ((), ()), ((1,) * 9,), ((1,) * 8, (1,) * 9), ((1,),) * 9, ((1, 2), (3, '4')), ((1, 2), 3),
    (((1,), (2,)), ((3,), (4,))), ((1, 2), (3, (4,))), ((1, 2), {3: 4}), ((1, 2.0), (3, 4)),
]
NO_PAIRS = NO_NUMBERS + [0, 1, (0,), (1, 2, 3, 4), (1, 5), (5, 1), (1, -1), [1, 2], (1, True), (True, 1), ((1, 2),), (1, 2.0)]
NO_TRIPLES = NO_NUMBERS + [0, 1, (0, 1), (1, 2, 3, 4), (1, 5, 0), (5, 1, 0), (1, 0, -1), [1, 2, 3], (1, True, 0), ((1, 2, 3),)]
NO_RESIDUES = NO_NUMBERS + [5, 6]
MATRIX = (BadMatrix, NO_MATRICES)
PRIME = (BadPrime, NO_PRIMES)
NO_CHAINS = [value for value in NO_NUMBERS if not isinstance(value, tuple) or value == ()] + [
    0, 1, [ONE], {ONE: OTHER}, (ONE,) * 9, (None,) * 9, (), [ONE, OTHER],
]
CLAIMED = {'prime': 5, 'one': ONE, 'other': OTHER, 'claim': CLAIM}
WRONG_CLAIMED = {'prime': PRIME, 'one': MATRIX, 'other': MATRIX, 'claim': MATRIX}
CASES = [
    Wrong(matrix_product, {'prime': 5, 'one': ONE, 'other': OTHER}, {'prime': PRIME, 'one': MATRIX, 'other': MATRIX}),
    Wrong(matrix_times, {'prime': 5, 'one': ONE, 'vector': (1, 2)}, {'prime': PRIME, 'one': MATRIX, 'vector': (BadVector, NO_PAIRS + [(1, 2, 3)])}),
    Wrong(reduced_rows, {'prime': 5, 'one': ONE}, {'prime': PRIME, 'one': MATRIX}),
    Wrong(matrix_rank, {'prime': 5, 'one': ONE}, {'prime': PRIME, 'one': MATRIX}),
    Wrong(lets_vector, {**CLAIMED, 'vector': (1, 2, 3)}, {**WRONG_CLAIMED, 'vector': (BadVector, NO_TRIPLES)}),
    Wrong(vectors_letting, CLAIMED, WRONG_CLAIMED),
    Wrong(letting_rows, CLAIMED, WRONG_CLAIMED),
    Wrong(lets_pair, {**CLAIMED, 'left': (1, 2), 'right': (1, 2, 3)},
          {**WRONG_CLAIMED, 'left': (BadVector, NO_PAIRS + [(1, 2, 3)]), 'right': (BadVector, NO_TRIPLES)}),
    Wrong(pairs_letting, CLAIMED, WRONG_CLAIMED),
    Wrong(lets_power, {**CLAIMED, 'residue': 2}, {**WRONG_CLAIMED, 'residue': (BadResidue, NO_RESIDUES)}),
    Wrong(powers_letting, CLAIMED, WRONG_CLAIMED),
    Wrong(chain_product, {'prime': 5, 'matrices': (ONE, OTHER)}, {'prime': PRIME, 'matrices': (BadMatrices, NO_CHAINS)}),
    Wrong(lets_chain, {'prime': 5, 'matrices': (ONE, OTHER), 'claim': CLAIM, 'vector': (1, 2, 3)},
          {'prime': PRIME, 'matrices': (BadMatrices, NO_CHAINS), 'claim': MATRIX, 'vector': (BadVector, NO_TRIPLES)}),
    Wrong(chain_work, {'prime': 5, 'matrices': (ONE, OTHER)}, {'prime': PRIME, 'matrices': (BadMatrices, NO_CHAINS)}),
]


def matrix(source, prime, rows, columns):
    kind = source.random()
    if kind < 0.1:
        return ((0,) * columns,) * rows
    if kind < 0.3:
        return (residues(source, prime, columns),) * rows
    if kind < 0.5:
        return tuple(tuple(source.choice((0, 0, 1, prime - 1)) for _ in range(columns)) for _ in range(rows))
    return tuple(residues(source, prime, columns) for _ in range(rows))


def product(prime, one, other):
    """Row by row and column by column, as the document says."""
    return tuple(
        tuple(sum(one[i][k] * other[k][j] for k in range(len(other))) % prime for j in range(len(other[0])))
        for i in range(len(one))
    )


def applied(prime, one, vector):
    return tuple(row[0] for row in product(prime, one, tuple((part,) for part in vector)))


def bent(source, prime, claim, many):
    """The matrix with up to so many residues changed."""
    rows = [list(row) for row in claim]
    for _ in range(many):
        rows[source.randrange(len(rows))][source.randrange(len(rows[0]))] = source.randrange(prime)
    return tuple(map(tuple, rows))


def claims(seeds, primes=PRIMES, most=4):
    """One, other, and claims of their product, right ones and wrong ones."""
    for seed in seeds:
        source = numbers(seed)
        prime = source.choice(primes)
        rows, middle, columns = (source.randint(1, most) for _ in range(3))
        one, other = matrix(source, prime, rows, middle), matrix(source, prime, middle, columns)
        right = product(prime, one, other)
        for claim in (right, bent(source, prime, right, 1), bent(source, prime, right, 3), matrix(source, prime, rows, columns)):
            yield source, prime, one, other, claim


def is_reduced(prime, rows):
    begun = []
    for row in rows:
        firsts = [at for at, part in enumerate(row) if part]
        if not firsts or row[firsts[0]] != 1 or [other[firsts[0]] for other in rows].count(0) != len(rows) - 1:
            return False
        begun.append(firsts[0])
    return begun == sorted(set(begun))


def span(prime, rows, many):
    """All sums of multiples of the rows, one for each tuple of factors."""
    return [
        tuple(sum(factor * row[at] for factor, row in zip(factors, rows)) % prime for at in range(many))
        for factors in itertools.product(range(prime), repeat=len(rows))
    ]


class Arguments(TriedCases, unittest.TestCase):
    cases = CASES

    def test_eight_and_nine(self):
        for prime in (3, 1000003):
            eight, nine = ((prime - 1,) * 8,) * 8, ((1,) * 9,) * 9
            self.assertEqual(matrix_product(prime, eight, eight), ((8 % prime,) * 8,) * 8)
            self.assertEqual(chain_product(prime, (eight,) * 8), product(prime, eight, chain_product(prime, (eight,) * 7)))
            for wrong in (nine, nine[:8], nine[:1], tuple(row[:8] for row in nine), tuple(row[:1] for row in nine)):
                self.assertIs(said_by(self, matrix_rank, {'prime': prime, 'one': wrong}).value, wrong)
            chain = (((1,),),) * 9
            self.assertIs(said_by(self, chain_work, {'prime': prime, 'matrices': chain}).value, chain)
            self.assertEqual(chain_work(prime, chain[:8]), (9, 7))

    def test_shapes(self):
        sizes = [(rows, columns) for rows in (1, 2, 3) for columns in (1, 2, 3)]
        made = {size: ((1,) * size[1],) * size[0] for size in sizes}
        for one, other in itertools.product(sizes, repeat=2):
            arguments = {'prime': 5, 'one': made[one], 'other': made[other]}
            if one[1] == other[0]:
                self.assertEqual(matrix_product(**arguments), product(5, made[one], made[other]))
            else:
                raised = said_by(self, matrix_product, arguments)
                self.assertEqual((raised.__class__, raised.value), (BadShape, (one[1], other[0])))
                self.assertIs(raised.value.__class__, tuple)
            for claim in sizes:
                wanted = None if claim == (one[0], other[1]) else claim
                if one[1] != other[0]:
                    wanted = (one[1], other[0])
                self.try_claim({**arguments, 'claim': made[claim]}, claim, wanted)

    def try_claim(self, arguments, claim, wanted):
        """All functions of a claimed product; wanted is the pair of BadShape, or None."""
        calls = [(vectors_letting, {}), (letting_rows, {}), (pairs_letting, {}), (powers_letting, {})]
        if wanted is None:
            calls += [(lets_vector, {'vector': (1,) * claim[1]}), (lets_power, {'residue': 2}),
                      (lets_pair, {'left': (1,) * claim[0], 'right': (2,) * claim[1]})]
            for function, more in calls:
                function(**arguments, **more)
        else:
            # The shape comes ahead of what is wrong in the parameters behind.
            calls += [(lets_vector, {'vector': None}), (lets_power, {'residue': -1}), (lets_pair, {'left': 0, 'right': 0})]
            for function, more in calls:
                raised = said_by(self, function, {**arguments, **more})
                self.assertEqual((raised.__class__, raised.value), (BadShape, wanted))

    def test_matrices_ahead_of_shapes(self):
        wrong = ((5,),)
        for function in (vectors_letting, letting_rows, pairs_letting, powers_letting):
            raised = said_by(self, function, {'prime': 5, 'one': ONE, 'other': ONE + ONE, 'claim': wrong})
            self.assertEqual((raised.__class__, raised.value), (BadMatrix, wrong))
            great = said_by(self, function, {'prime': 1013, 'one': ONE, 'other': ONE + ONE, 'claim': CLAIM})
            self.assertEqual((great.__class__, great.value), (BadShape, (2, 4)))

    def test_parts_of_chains(self):
        for wrong in NO_MATRICES:
            for chain in ((wrong,), (ONE, wrong), (wrong, ONE), (ONE, wrong, None), (ONE, ONE + ONE, wrong)):
                for function, more in ((chain_product, {}), (chain_work, {}), (lets_chain, {'claim': 7, 'vector': 7})):
                    raised = said_by(self, function, {'prime': 5, 'matrices': chain, **more})
                    self.assertIs(raised.__class__, BadMatrix)
                    self.assertIs(raised.value, wrong)

    def test_shapes_of_chains(self):
        row, square, column = ((1, 2, 3),), ((1, 2), (3, 4)), ((1,), (2,))
        for chain, pair in [((square, row), (2, 1)), ((square, square, row, column), (2, 1)), ((square, column, row, column), (3, 2))]:
            for function, more in ((chain_product, {}), (chain_work, {}), (lets_chain, {'claim': square, 'vector': 7})):
                raised = said_by(self, function, {'prime': 5, 'matrices': chain, **more})
                self.assertEqual((raised.__class__, raised.value), (BadShape, pair))
            raised = said_by(self, lets_chain, {'prime': 5, 'matrices': chain, 'claim': ((7,),), 'vector': 7})
            self.assertEqual((raised.__class__, raised.value), (BadMatrix, ((7,),)))
        for claim in (square, column, row, ((1,),)):
            raised = said_by(self, lets_chain, {'prime': 5, 'matrices': (square, column, row), 'claim': claim, 'vector': 7})
            self.assertEqual((raised.__class__, raised.value), (BadShape, (len(claim), len(claim[0]))))

    def test_too_great_for_powers(self):
        arguments = {'one': ONE, 'other': OTHER, 'claim': CLAIM}
        # The product is ((3, 2, 2), (7, 4, 6)) as long as the prime is above 7.
        self.assertEqual(powers_letting(1009, **arguments), tuple(t for t in range(1009) if (5 + 6 * t * t) % 1009 == 0))
        self.assertEqual(len(powers_letting(1009, **arguments)), 2)
        for prime in (1013, 1000003):
            raised = said_by(self, powers_letting, {'prime': prime, **arguments})
            self.assertEqual((raised.__class__, raised.value), (TooGreat, 1009))


class Products(unittest.TestCase):
    def test_by_sums(self):
        for source, prime, one, other, claim in claims(range(150), most=8):
            self.assertEqual(matrix_product(prime, one, other), product(prime, one, other))
            vector = residues(source, prime, len(one[0]))
            self.assertEqual(matrix_times(prime, one, vector), applied(prime, one, vector))
            self.assertEqual({row.__class__ for row in matrix_product(prime, one, other)}, {tuple})

    def test_reduced(self):
        for seed in range(300):
            source = numbers(seed)
            prime = source.choice(PRIMES)
            one = matrix(source, prime, source.randint(1, 8), source.randint(1, 8))
            rows = reduced_rows(prime, one)
            self.assertIs(rows.__class__, tuple)
            self.assertTrue(is_reduced(prime, rows))
            self.assertEqual(matrix_rank(prime, one), len(rows))
            # Its own reduced rows, and of no matrix that is made from it other ones.
            if rows:
                self.assertEqual(reduced_rows(prime, rows), rows)
            mixed = list(one)
            source.shuffle(mixed)
            mixed[0] = tuple(part * (prime - 1) % prime for part in mixed[0])
            if len(mixed) > 1:
                mixed[1] = tuple((left + 2 * right) % prime for left, right in zip(mixed[1], mixed[0]))
            self.assertEqual(reduced_rows(prime, tuple(mixed)), rows)

    def test_reduced_has_the_same_sums(self):
        for seed in range(60):
            source = numbers(seed)
            prime = source.choice((3, 5))
            one = matrix(source, prime, source.randint(1, 4), source.randint(1, 4))
            many = len(one[0])
            rows = reduced_rows(prime, one)
            self.assertEqual(set(span(prime, rows, many)), set(span(prime, one, many)))
            self.assertEqual(len(set(span(prime, rows, many))), prime ** len(rows))

    def test_reduced_of_nought(self):
        self.assertEqual(reduced_rows(3, ((0, 0), (0, 0))), ())
        self.assertEqual(matrix_rank(3, ((0,),)), 0)
        self.assertEqual(reduced_rows(7, ((0, 0, 3), (0, 2, 0), (0, 2, 3))), ((0, 1, 0), (0, 0, 1)))
        self.assertEqual(reduced_rows(7, ((2, 4), (1, 2))), ((1, 2),))


class Checks(unittest.TestCase):
    def test_right_is_let(self):
        for seed in range(100):
            source = numbers(seed)
            prime = source.choice(PRIMES)
            one, other = matrix(source, prime, source.randint(1, 8), 3), matrix(source, prime, 3, source.randint(1, 8))
            claim = product(prime, one, other)
            m, n = len(one), len(other[0])
            for _ in range(5):
                right = residues(source, prime, n)
                self.assertIs(lets_vector(prime, one, other, claim, right), True)
                self.assertIs(lets_pair(prime, one, other, claim, residues(source, prime, m), right), True)
                self.assertIs(lets_power(prime, one, other, claim, source.randrange(prime)), True)
                self.assertIs(lets_chain(prime, (one, other), claim, right), True)
            self.assertEqual(vectors_letting(prime, one, other, claim), prime ** n)
            self.assertEqual(pairs_letting(prime, one, other, claim), prime ** (m + n))
            self.assertEqual(letting_rows(prime, one, other, claim), tuple(tuple(int(i == j) for j in range(n)) for i in range(n)))
            if prime <= 1009:
                self.assertEqual(powers_letting(prime, one, other, claim), tuple(range(prime)))

    def test_all_vectors_one_by_one(self):
        ranks = set()
        for source, prime, one, other, claim in claims(range(160), (3, 5, 7), 3):
            n = len(other[0])
            right = product(prime, one, other)
            let = []
            for vector in itertools.product(range(prime), repeat=n):
                found = lets_vector(prime, one, other, claim, vector)
                self.assertIs(found, applied(prime, right, vector) == applied(prime, claim, vector))
                if found:
                    let.append(vector)
            self.assertEqual(vectors_letting(prime, one, other, claim), len(let))
            rows = letting_rows(prime, one, other, claim)
            self.assertTrue(is_reduced(prime, rows))
            self.assertEqual(sorted(span(prime, rows, n)), let)
            ranks.add((n, len(rows)))
            if claim != right:
                self.assertLessEqual(len(let), prime ** (n - 1))
        self.assertLessEqual({(1, 0), (1, 1), (2, 1), (3, 0), (3, 1), (3, 2), (3, 3)}, ranks)

    def test_great_primes(self):
        for source, prime, one, other, claim in claims(range(100), (1009, 1000003), 8):
            n = len(other[0])
            lack = tuple(
                tuple((left - right) % prime for left, right in zip(*rows)) for rows in zip(product(prime, one, other), claim))
            rows = letting_rows(prime, one, other, claim)
            self.assertEqual(vectors_letting(prime, one, other, claim), prime ** len(rows))
            self.assertEqual(len(rows), n - matrix_rank(prime, lack))
            for row in rows:
                self.assertTrue(lets_vector(prime, one, other, claim, row))
            for _ in range(4):
                vector = residues(source, prime, n)
                self.assertEqual(lets_vector(prime, one, other, claim, vector), not any(applied(prime, lack, vector)))

    def test_all_pairs_one_by_one(self):
        for source, prime, one, other, claim in claims(range(40), (3, 5), 2):
            m, n = len(one), len(other[0])
            right = product(prime, one, other)
            let = 0
            for left in itertools.product(range(prime), repeat=m):
                for vector in itertools.product(range(prime), repeat=n):
                    sums = [
                        sum(left[i] * made[i][j] * vector[j] for i in range(m) for j in range(n)) % prime for made in (right, claim)]
                    found = lets_pair(prime, one, other, claim, left, vector)
                    self.assertIs(found, sums[0] == sums[1])
                    let += found
            self.assertEqual(pairs_letting(prime, one, other, claim), let)

    def test_all_powers_one_by_one(self):
        for source, prime, one, other, claim in claims(range(80), (3, 5, 7, 101), 8):
            let = []
            for residue in range(prime):
                vector = tuple(residue ** power % prime for power in range(len(other[0])))
                found = lets_power(prime, one, other, claim, residue)
                self.assertIs(found, lets_vector(prime, one, other, claim, vector))
                if found:
                    let.append(residue)
            self.assertEqual(powers_letting(prime, one, other, claim), tuple(let))
            if claim != product(prime, one, other) and len(other[0]) <= prime:
                self.assertLessEqual(len(let), len(other[0]) - 1)

    def test_all_powers_can_let_a_wrong_claim(self):
        # x ** 3 - x is 0 at all residues modulo 3; here n is greater than p.
        self.assertEqual(powers_letting(3, ((0,),), ((0, 0, 0, 0),), ((0, 2, 0, 1),)), (0, 1, 2))
        self.assertEqual(powers_letting(3, ((0,),), ((0, 0, 0),), ((0, 2, 1),)), (0, 1))

    def test_most_that_a_wrong_claim_can_be_let(self):
        for prime in (3, 5):
            for n in (1, 2, 3):
                claim = ((0,) * (n - 1) + (1,),)
                self.assertEqual(vectors_letting(prime, ((0,),), ((0,) * n,), claim), prime ** (n - 1))
                self.assertEqual(letting_rows(prime, ((0,),), ((0,) * n,), claim),
                                 tuple(tuple(int(i == j) for j in range(n)) for i in range(n - 1)))

    def test_letting_rows_of_nought_alone(self):
        self.assertEqual(letting_rows(5, ((0, 0), (0, 0)), ((0, 0), (0, 0)), ((1, 1), (1, 2))), ())
        self.assertEqual(vectors_letting(5, ((0,),), ((0,),), ((3,),)), 1)


class Chains(unittest.TestCase):
    def chains(self, seeds, most):
        for seed in seeds:
            source = numbers(seed)
            prime = source.choice(PRIMES)
            sizes = [source.randint(1, 8) for _ in range(source.randint(1, most) + 1)]
            yield source, prime, sizes, tuple(matrix(source, prime, *pair) for pair in zip(sizes, sizes[1:]))

    def test_products(self):
        for source, prime, sizes, chain in self.chains(range(60), 8):
            made = chain[-1]
            for one in chain[-2::-1]:
                made = product(prime, one, made)
            self.assertEqual(chain_product(prime, chain), made)
            for claim in (made, bent(source, prime, made, 1)):
                vector = residues(source, prime, sizes[-1])
                found = lets_chain(prime, chain, claim, vector)
                self.assertIs(found, applied(prime, made, vector) == applied(prime, claim, vector))

    def test_wrong_in_one_residue(self):
        for seed in range(20):
            source = numbers(seed)
            chain = tuple(matrix(source, 101, 3, 3) for _ in range(4))
            made = chain_product(101, chain)
            claim = (((made[0][0] + 1) % 101,) + made[0][1:],) + made[1:]
            self.assertFalse(lets_chain(101, chain, claim, (1, source.randrange(101), source.randrange(101))))
            self.assertTrue(lets_chain(101, chain, claim, (0, source.randrange(101), source.randrange(101))))

    def orders(self, sizes):
        """The work of each order, product by product."""
        if len(sizes) == 2:
            return [0]
        return [
            sizes[at - 1] * sizes[at] * sizes[at + 1] + rest
            for at in range(1, len(sizes) - 1) for rest in self.orders(sizes[:at] + sizes[at + 1:])
        ]

    def test_work(self):
        for source, prime, sizes, chain in self.chains(range(150), 5):
            told = sum(len(one) * len(one[0]) for one in chain)
            self.assertEqual(chain_work(prime, chain), (told + sizes[0] * sizes[-1], min(self.orders(sizes))))

    def test_work_of_one_and_of_eight(self):
        self.assertEqual(chain_work(3, (((1, 2, 0), (0, 0, 0)),)), (12, 0))
        sizes = [8, 1, 7, 2, 6, 3, 5, 4, 8]
        chain = tuple(((0,) * columns,) * rows for rows, columns in zip(sizes, sizes[1:]))
        self.assertEqual(chain_work(3, chain)[1], min(self.orders(sizes)))


if __name__ == '__main__':
    unittest.main()
