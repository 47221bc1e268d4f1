"""Lists, piles and rows (points 13 and 3)."""

import collections
import itertools
import math
import unittest

from fewthrows.errors import (
    BadList, BadNumber, BadPlaces, BadPrime, BadResidue, BadRows, BadWidth, TooFew, TooGreat, Unequal,
)
from fewthrows.lists import (
    folded_rows, grown_value, lets_each_once, lets_merged, lets_pile, lets_rows, lets_shuffle, lets_sorted, pile_value,
    piles_letting, rows_bound, same_pile, throws_letting,
)
from tests.support import NO_NUMBERS, NO_PRIMES, TriedCases, Wrong, numbers, residues, said_by

PRIMES = (3, 5, 7, 101, 1009, 1000003)
PRIME = (BadPrime, NO_PRIMES)
# () is a list, of entries and of rows; of the values of NO_NUMBERS ((1,),) alone is one of rows, too.
NO_LISTS = [value for value in NO_NUMBERS if value != ()] + [
    0, 1, (7,), (1, 7), (1, -1), (1, True), [1, 2], (1,) * 41, (0,) * 100000, ((1, 2),), (1, (2,)), (1, 2.0), (None, 1),
]
NO_ROWS = [value for value in NO_NUMBERS if value not in ((), ((1,),))] + [
    0, 1, (1,), (1, 2), ((1, 2), (3,)), ((1,), (2, 3)), ((1, 7),), ((1, -1),), ((1, True),), [(1, 2)], ([1, 2],), ((1, 2), None), ((),), ((), ()),
    ((1,) * 5,), ((1, 2),) * 41, ((1,),) * 41, ((1, (2,)),), ((1, 2), {3: 4}), ((1, 2.0),),
]
NO_RESIDUES = NO_NUMBERS + [7, 8, 10 ** 9]
LIST, ROWS, RESIDUE = (BadList, NO_LISTS), (BadRows, NO_ROWS), (BadResidue, NO_RESIDUES)
A, B = (1, 2, 2), (2, 1, 3)
ROWS_A, ROWS_B = ((1, 2), (3, 4)), ((3, 4), (1, 1))
NO_COUNTS = NO_NUMBERS + [41, 42, 1000]
NO_WIDTHS = NO_NUMBERS + [0, 5, 6, 1000]
NO_PLACES = [value for value in NO_NUMBERS] + [0, (1,), (1, 2), (0, 1, 2, 3), (0, 1, 7), (0, 1, -1), [0, 1, 2], (0, 1, True), ((0, 1, 2),), (0, 1, 2.0)]
CASES = [
    Wrong(same_pile, {'prime': 7, 'one': A, 'other': B}, {'prime': PRIME, 'one': LIST, 'other': LIST}),
    Wrong(pile_value, {'prime': 7, 'entries': A, 'residue': 3}, {'prime': PRIME, 'entries': LIST, 'residue': RESIDUE}),
    Wrong(lets_pile, {'prime': 7, 'one': A, 'other': B, 'residue': 3}, {'prime': PRIME, 'one': LIST, 'other': LIST, 'residue': RESIDUE}),
    Wrong(piles_letting, {'prime': 7, 'one': A, 'other': B}, {'prime': PRIME, 'one': LIST, 'other': LIST}),
    Wrong(grown_value, {'prime': 7, 'value': 0, 'residue': 3, 'entry': 6},
          {'prime': PRIME, 'value': RESIDUE, 'residue': RESIDUE, 'entry': RESIDUE}),
    Wrong(lets_merged, {'prime': 7, 'one': A, 'other': B, 'both': A + B, 'residue': 3},
          {'prime': PRIME, 'one': LIST, 'other': LIST, 'both': LIST, 'residue': RESIDUE}),
    Wrong(lets_sorted, {'prime': 7, 'one': A, 'other': B, 'residue': 3}, {'prime': PRIME, 'one': LIST, 'other': LIST, 'residue': RESIDUE}),
    Wrong(lets_each_once, {'prime': 7, 'entries': A, 'residue': 3}, {'prime': PRIME, 'entries': LIST, 'residue': RESIDUE}),
    Wrong(folded_rows, {'prime': 7, 'rows': ROWS_A, 'residue': 3}, {'prime': PRIME, 'rows': ROWS, 'residue': RESIDUE}),
    Wrong(lets_rows, {'prime': 7, 'one': ROWS_A, 'other': ROWS_B, 'y': 3, 'z': 4},
          {'prime': PRIME, 'one': ROWS, 'other': ROWS, 'y': RESIDUE, 'z': RESIDUE}),
    Wrong(throws_letting, {'prime': 7, 'one': ROWS_A, 'other': ROWS_B}, {'prime': PRIME, 'one': ROWS, 'other': ROWS}),
    Wrong(rows_bound, {'prime': 7, 'many': 3, 'width': 2}, {'prime': PRIME, 'many': (BadNumber, NO_COUNTS), 'width': (BadNumber, NO_WIDTHS)}),
    Wrong(lets_shuffle, {'prime': 7, 'one': A, 'other': B, 'places': (1, 0, 2), 'y': 3, 'z': 4},
          {'prime': PRIME, 'one': LIST, 'other': LIST, 'places': (BadPlaces, NO_PLACES), 'y': RESIDUE, 'z': RESIDUE}),
]


def pile(prime, entries, z):
    return math.prod(z - entry for entry in entries) % prime


def some_lists(seeds, primes=PRIMES, most=40):
    """Two lists of one length: any ones, one pile in two sequences, all but one entry alike."""
    for seed in seeds:
        source = numbers(seed)
        prime = source.choice(primes)
        many = source.choice((0, 1, 2, 3, 5, most))
        one = residues(source, min(prime, source.choice((3, 101, prime))), many)
        mixed = list(one)
        source.shuffle(mixed)
        bent = list(mixed)
        if many:
            bent[source.randrange(many)] = source.randrange(prime)
        for other in (tuple(mixed), tuple(bent), residues(source, prime, many)):
            yield source, prime, one, other


def some_rows(seeds, primes, most=40):
    for seed in seeds:
        source = numbers(seed)
        prime = source.choice(primes)
        width, many = source.randint(1, 4), source.choice((0, 1, 2, 3, most))
        one = tuple(residues(source, prime, width) for _ in range(many))
        mixed = list(one)
        source.shuffle(mixed)
        bent = list(mixed)
        if many:
            row = list(bent[-1])
            row[source.randrange(width)] = source.randrange(prime)
            bent[-1] = tuple(row)
        for other in (tuple(mixed), tuple(bent), tuple(residues(source, prime, width) for _ in range(many))):
            yield source, prime, one, other


class Arguments(TriedCases, unittest.TestCase):
    cases = CASES

    def raises(self, function, arguments, error, value):
        raised = said_by(self, function, arguments)
        self.assertEqual((raised.__class__, raised.value), (error, value))
        self.assertIs(raised.value.__class__, value.__class__)

    def test_unequal(self):
        for one, other in (((1, 2), (1,)), ((), (3,)), ((1,) * 40, ()), ((0,), (0,) * 40)):
            lengths = (len(one), len(other))
            for function, more in ((lets_pile, {'residue': 7}), (piles_letting, {}), (lets_sorted, {'residue': None}),
                                   (lets_shuffle, {'places': None, 'y': 7, 'z': 7})):
                self.raises(function, {'prime': 7, 'one': one, 'other': other, **more}, Unequal, lengths)
            self.raises(piles_letting, {'prime': 1013, 'one': one, 'other': other}, Unequal, lengths)
            rows = [tuple((entry, 1) for entry in entries) for entries in (one, other)]
            wide = tuple(row + (1,) for row in rows[1])
            self.raises(lets_rows, {'prime': 7, 'one': rows[0], 'other': wide, 'y': 7, 'z': 7}, Unequal, lengths)
            self.raises(throws_letting, {'prime': 103, 'one': rows[0], 'other': wide}, Unequal, lengths)
            self.assertIs(same_pile(7, one, other), False)

    def test_unequal_of_merged(self):
        for one, other, both in (((1,), (2,), (1,)), ((), (), (1,)), ((1,) * 30, (1,) * 30, (1,) * 40), ((1,), (2, 3), ())):
            self.raises(lets_merged, {'prime': 7, 'one': one, 'other': other, 'both': both, 'residue': 7},
                        Unequal, (len(one) + len(other), len(both)))

    def test_widths(self):
        for one, other in itertools.product((1, 2, 3, 4), repeat=2):
            rows = [((1,) * width,) * 2 for width in (one, other)]
            if one == other:
                self.assertTrue(lets_rows(7, rows[0], rows[1], 2, 3))
                continue
            self.raises(lets_rows, {'prime': 7, 'one': rows[0], 'other': rows[1], 'y': 7, 'z': 7}, BadWidth, (one, other))
            self.raises(throws_letting, {'prime': 103, 'one': rows[0], 'other': rows[1]}, BadWidth, (one, other))
            lone = [((1,) * width,) for width in (one, other)]
            self.raises(lets_rows, {'prime': 7, 'one': lone[0], 'other': lone[1], 'y': 7, 'z': 7}, BadWidth, (one, other))
        self.assertIs(lets_rows(7, (), (), 0, 0), True)

    def test_too_few(self):
        for prime in (3, 5, 7):
            for extra in (1, 2, 5):
                many = prime + extra
                entries = (1,) * many
                self.raises(lets_each_once, {'prime': prime, 'entries': entries, 'residue': prime}, TooFew, prime)
                self.raises(lets_shuffle, {'prime': prime, 'one': entries, 'other': entries, 'places': entries, 'y': prime, 'z': 0}, TooFew, prime)
                self.raises(lets_shuffle, {'prime': prime, 'one': entries, 'other': entries, 'places': entries[1:], 'y': 0, 'z': 0},
                            BadPlaces, entries[1:])
            self.assertIs(lets_each_once(prime, tuple(range(prime))[::-1], 1), True)
            self.assertIs(lets_shuffle(prime, (1,) * prime, (1,) * prime, tuple(range(prime))[::-1], 1, 2), True)

    def test_too_great(self):
        for prime in (1013, 1000003):
            self.raises(piles_letting, {'prime': prime, 'one': A, 'other': B}, TooGreat, 1009)
        for prime in (103, 107, 1009, 1000003):
            self.raises(throws_letting, {'prime': prime, 'one': ROWS_A, 'other': ROWS_B}, TooGreat, 101)
        self.assertEqual(piles_letting(1009, A, A), 1009)
        self.assertEqual(throws_letting(101, ROWS_A, ROWS_A), 101 ** 2)

    def test_forty(self):
        forty = tuple(range(40))
        self.assertEqual(pile_value(101, forty, 100), pile(101, forty, 100))
        self.assertEqual(folded_rows(101, ((1, 2, 3, 4),) * 40, 2), (1 + 4 + 12 + 32,) * 40)
        self.assertTrue(lets_merged(101, forty, (), forty, 50))

    def test_numbers_of_bound(self):
        self.assertEqual([rows_bound(7, many, width) for many, width in ((0, 1), (0, 4), (1, 1), (40, 4))], [0, 0, 0, 49])


class Piles(unittest.TestCase):
    def test_values(self):
        for source, prime, one, other in some_lists(range(80)):
            z = source.randrange(prime)
            self.assertEqual(pile_value(prime, one, z), pile(prime, one, z))
            self.assertIs(same_pile(prime, one, other), collections.Counter(one) == collections.Counter(other))
            self.assertIs(lets_pile(prime, one, other, z), pile(prime, one, z) == pile(prime, other, z))
            if same_pile(prime, one, other):
                self.assertIs(lets_pile(prime, one, other, z), True)
            if one:
                at = source.choice(one)
                self.assertEqual(pile_value(prime, one, at), 0)
        for prime in PRIMES:
            self.assertEqual(pile_value(prime, (), prime - 1), 1)
        self.assertIs(same_pile(7, (1, 1, 2), (1, 2, 2)), False)
        self.assertIs(same_pile(7, (1,), (1, 1)), False)

    def test_grown(self):
        for source, prime, one, other in some_lists(range(40)):
            z = source.randrange(prime)
            value = 1
            for at, entry in enumerate(one):
                value = grown_value(prime, value, z, entry)
                self.assertEqual(value, pile(prime, one[:at + 1], z))
        self.assertEqual(grown_value(7, 3, 1, 5), 3 * -4 % 7)

    def test_letting_one_by_one(self):
        for source, prime, one, other in some_lists(range(60), (3, 5, 7, 101)):
            let = [z for z in range(prime) if lets_pile(prime, one, other, z)]
            self.assertEqual(piles_letting(prime, one, other), len(let))
            if same_pile(prime, one, other):
                self.assertEqual(len(let), prime)
            elif len(one) <= prime:
                self.assertLessEqual(len(let), len(one) - 1)

    def test_all_residues_can_let_unlike_piles(self):
        # Each residue is in both: both products are 0 everywhere.
        self.assertEqual(piles_letting(3, (0, 1, 2, 0), (0, 1, 2, 1)), 3)
        self.assertEqual(piles_letting(3, (0, 1, 1), (0, 0, 2)), 1)

    def test_merged(self):
        for source, prime, one, other in some_lists(range(60), most=20):
            z = source.randrange(prime)
            both = list(one + other)
            source.shuffle(both)
            self.assertIs(lets_merged(prime, one, other, tuple(both), z), True)
            if both:
                both[0] = source.randrange(prime)
            wanted = pile(prime, one, z) * pile(prime, other, z) % prime == pile(prime, both, z)
            self.assertIs(lets_merged(prime, one, other, tuple(both), z), wanted)

    def test_sorted(self):
        ascending = 0
        for source, prime, one, other in some_lists(range(100)):
            z = source.randrange(prime)
            for told in (other, tuple(sorted(other)), tuple(sorted(one))):
                rises = list(told) == sorted(told)
                ascending += rises
                self.assertIs(lets_sorted(prime, one, told, z), rises and pile(prime, one, z) == pile(prime, told, z))
            self.assertIs(lets_sorted(prime, one, tuple(sorted(one)), z), True)
        self.assertGreater(ascending, 300)
        self.assertIs(lets_sorted(7, (3, 1, 3), (1, 3, 3), 0), True)
        self.assertIs(lets_sorted(7, (3, 1, 3), (3, 3, 1), 0), False)
        self.assertIs(lets_sorted(7, (1, 2), (0, 6), 3), False)

    def test_each_once(self):
        for seed in range(60):
            source = numbers(seed)
            prime = source.choice(PRIMES)
            many = source.randint(0, min(prime, 40))
            entries = list(range(many))
            source.shuffle(entries)
            z = source.randrange(prime)
            self.assertIs(lets_each_once(prime, tuple(entries), z), True)
            if many:
                entries[0] = source.randrange(prime)
            self.assertIs(lets_each_once(prime, tuple(entries), z), pile(prime, entries, z) == pile(prime, range(many), z))
        self.assertIs(lets_each_once(7, (0, 0), 3), False)


class Rows(unittest.TestCase):
    def folded(self, prime, rows, y):
        return tuple(sum(part * y ** power for power, part in enumerate(row)) % prime for row in rows)

    def test_folded(self):
        for source, prime, one, other in some_rows(range(60), PRIMES):
            for y in (0, 1, source.randrange(prime)):
                self.assertEqual(folded_rows(prime, one, y), self.folded(prime, one, y))
        self.assertEqual(folded_rows(7, (), 3), ())
        self.assertEqual(folded_rows(7, ((0, 0, 0, 1),), 2), (1,))

    def test_lets(self):
        for source, prime, one, other in some_rows(range(60), PRIMES):
            y, z = source.randrange(prime), source.randrange(prime)
            values = [pile(prime, self.folded(prime, rows, y), z) for rows in (one, other)]
            self.assertIs(lets_rows(prime, one, other, y, z), values[0] == values[1])
            if sorted(one) == sorted(other):
                self.assertIs(lets_rows(prime, one, other, y, z), True)

    def test_letting_one_by_one_and_bound(self):
        below = 0
        for source, prime, one, other in some_rows(range(60), (3, 5, 7, 11), 9):
            let = sum(lets_rows(prime, one, other, y, z) for y in range(prime) for z in range(prime))
            self.assertEqual(throws_letting(prime, one, other), let)
            width = len(one[0]) if one else source.randint(1, 4)
            if sorted(one) == sorted(other):
                self.assertEqual(let, prime ** 2)
            else:
                self.assertLessEqual(let, rows_bound(prime, len(one), width))
                below += rows_bound(prime, len(one), width) < prime ** 2
        self.assertGreater(below, 20)

    def test_bound(self):
        for prime in (3, 5, 7, 101, 1000003):
            for many, width in itertools.product(range(41), range(1, 5)):
                b = min(many * (width - 1), prime) if many else 0
                m = min(many - 1, prime) if many else 0
                self.assertEqual(rows_bound(prime, many, width), prime * b + (prime - b) * m)

    def test_shuffles(self):
        wrong = 0
        for seed in range(80):
            source = numbers(seed)
            prime = source.choice(PRIMES)
            many = source.randint(0, min(prime, 40))
            one = residues(source, prime, many)
            places = list(range(many))
            source.shuffle(places)
            other = tuple(one[place] for place in places)
            y, z = source.randrange(prime), source.randrange(prime)
            self.assertIs(lets_shuffle(prime, one, other, tuple(places), y, z), True)
            told = list(places)
            if many:
                told[source.randrange(many)] = source.randrange(prime)
            rows = tuple(enumerate(one)), tuple(zip(told, other))
            self.assertIs(lets_shuffle(prime, one, other, tuple(told), y, z), lets_rows(prime, rows[0], rows[1], y, z))
            wrong += not lets_shuffle(prime, one, other, tuple(told), y, z)
        self.assertGreater(wrong, 40)

    def test_shuffles_of_small_primes(self):
        # The places of entries that are alike can be told either way, others cannot.
        for one in itertools.product(range(3), repeat=2):
            for other in itertools.product(range(3), repeat=2):
                for places in itertools.product(range(3), repeat=2):
                    let = sum(lets_shuffle(3, one, other, places, y, z) for y in range(3) for z in range(3))
                    right = sorted(places) == [0, 1] and all(other[at] == one[place] for at, place in enumerate(places))
                    self.assertEqual(let == 9, right)
                    if not right:
                        self.assertLessEqual(let, rows_bound(3, 2, 2))


if __name__ == '__main__':
    unittest.main()
