"""Tables (point 5)."""

import itertools
import unittest

from fewthrows.errors import BadPlace, BadPoint, BadPrime, BadResidue, BadTable
from fewthrows.polynomials import value_at
from fewthrows.tables import along_line, folded_table, place_weight, table_value
from tests.support import (
    NO_NUMBERS, NO_PRIMES, Wrong, numbers, residues, said_by, try_by_position, try_order, try_wrong,
)

PRIMES = (3, 5, 7, 11, 1009, 1000003)
PRIME = (BadPrime, NO_PRIMES)
BAD_RESIDUE = (BadResidue, NO_NUMBERS + [7, 8, 1000003])
BAD_TABLE = (BadTable, NO_NUMBERS + [
    0, 1, (1, 2, 3), (1, 2, 3, 7), (7,), (1, 2, 3, -1), (0,) * 5, (0,) * 6, (0,) * 63, (0,) * 65, (0,) * 128,
    [1, 2, 3, 4], (1, 2, 3, True), (1, 2, 3, None), ((1, 2), (3, 4)),
])
BAD_POINT = (BadPoint, NO_NUMBERS + [0, 1, (1,), (1, 2, 3), (0, 7), (7, 0), [1, 2], ((1, 2),), (0,) * 7])
BAD_PLACE = (BadPlace, [wrong for wrong in NO_NUMBERS if wrong != ()] + [
    0, 1, (2,), (1, 2), (2, 1), (0, 6), [1, 0], (1, False), (0,) * 7, (1,) * 7, (0, 1, 0, 1, 0, 1, 2), ((1, 0),),
])

CASES = [
    Wrong(table_value, {'prime': 7, 'table': (1, 2, 3, 4), 'point': (3, 5)},
          {'prime': PRIME, 'table': BAD_TABLE, 'point': BAD_POINT}),
    Wrong(place_weight, {'prime': 7, 'place': (1, 0), 'point': (3, 5)},
          {'prime': PRIME, 'place': BAD_PLACE, 'point': BAD_POINT}),
    Wrong(folded_table, {'prime': 7, 'table': (1, 2, 3, 4), 'residue': 3},
          {'prime': PRIME, 'table': (BadTable, BAD_TABLE[1] + [(3,), (0,)]), 'residue': BAD_RESIDUE}),
    Wrong(along_line, {'prime': 7, 'table': (1, 2, 3, 4), 'one': (0, 0), 'other': (3, 5)},
          {'prime': PRIME, 'table': BAD_TABLE, 'one': BAD_POINT, 'other': BAD_POINT}),
]


def places(many):
    """All places of so many names, in the order of the indexes of a table."""
    return list(itertools.product((0, 1), repeat=many))


def weight_by_rule(prime, place, point):
    weight = 1
    for bit, residue in zip(place, point):
        weight *= residue if bit else 1 - residue
    return weight % prime


def value_by_rule(prime, table, point):
    """The sum over all places, as the document writes it."""
    pairs = zip(table, places(len(point)))
    return sum(residue * weight_by_rule(prime, place, point) for residue, place in pairs) % prime


def line_by_rule(prime, table, one, other):
    """The line's polynomial: for each place the product of its factors in t, all added."""
    total = [0] * (len(one) + 1)
    for residue, place in zip(table, places(len(one))):
        poly = [residue]
        for bit, start, end in zip(place, one, other):
            factor = (start, end - start) if bit else (1 - start, start - end)
            longer = [0] * (len(poly) + 1)
            for power, part in enumerate(poly):
                longer[power] += part * factor[0]
                longer[power + 1] += part * factor[1]
            poly = longer
        total = [(left + right) % prime for left, right in zip(total, poly)]
    return tuple(total)


class WrongValues(unittest.TestCase):
    def test_each_alone(self):
        for case in CASES:
            try_wrong(self, case)

    def test_first_is_told(self):
        for case in CASES:
            try_order(self, case)

    def test_by_position_and_name(self):
        for case in CASES:
            try_by_position(self, case)

    def test_points_have_as_many_names_as_tables(self):
        for many in range(7):
            table = tuple(k % 3 for k in range(2 ** many))
            for wrong in range(9):
                point = (1,) * wrong
                if wrong == many:
                    continue
                for function, arguments in (
                    (table_value, {'prime': 3, 'table': table, 'point': point}),
                    (place_weight, {'prime': 3, 'place': (0,) * many, 'point': point}),
                    (along_line, {'prime': 3, 'table': table, 'one': point, 'other': (3,)}),
                    (along_line, {'prime': 3, 'table': table, 'one': (2,) * many, 'other': point}),
                ):
                    raised = said_by(self, function, arguments)
                    self.assertIs(raised.__class__, BadPoint)
                    self.assertIs(raised.value, point)

    def test_tables_of_each_length(self):
        for many in range(140):
            table = (1,) * many
            if many in (1, 2, 4, 8, 16, 32, 64):
                self.assertEqual(table_value(3, table, (2,) * (many.bit_length() - 1)), 1)
            else:
                raised = said_by(self, table_value, {'prime': 3, 'table': table, 'point': ()})
                self.assertIs(raised.__class__, BadTable)
                self.assertIs(raised.value, table)

    def test_table_of_one_residue(self):
        for prime in PRIMES:
            self.assertEqual(table_value(prime, (2,), ()), 2)
            self.assertEqual(along_line(prime, (2,), (), ()), (2,))
            self.assertEqual(place_weight(prime, (), ()), 1)
            raised = said_by(self, folded_table, {'prime': prime, 'table': (2,), 'residue': -1})
            self.assertIs(raised.__class__, BadTable)
            self.assertEqual(raised.value, (2,))


class Values(unittest.TestCase):
    def some(self, seed):
        source = numbers(seed)
        for prime in PRIMES:
            for many in range(7):
                for _ in range(3):
                    yield source, prime, many, residues(source, prime, 2 ** many)

    def test_at_places(self):
        for _, prime, many, table in self.some(11):
            for residue, place in zip(table, places(many)):
                self.assertEqual(table_value(prime, table, place), residue)

    def test_at_points(self):
        for source, prime, many, table in self.some(12):
            for point in (residues(source, prime, many), (prime - 1,) * many, (2,) * many):
                value = table_value(prime, table, point)
                self.assertIs(value.__class__, int)
                self.assertEqual(value, value_by_rule(prime, table, point))

    def test_weights(self):
        for source, prime, many, table in self.some(13):
            point = residues(source, prime, many)
            weights = [place_weight(prime, place, point) for place in places(many)]
            self.assertEqual(weights, [weight_by_rule(prime, place, point) for place in places(many)])
            self.assertEqual(sum(weights) % prime, 1)
            self.assertEqual(sum(w * r for w, r in zip(weights, table)) % prime, table_value(prime, table, point))

    def test_weights_at_places(self):
        for many in range(7):
            for one in places(many)[::3]:
                for other in places(many)[::2]:
                    self.assertEqual(place_weight(5, one, other), 1 if one == other else 0)

    def test_folding(self):
        for source, prime, many, table in self.some(14):
            point = residues(source, prime, many)
            folded = table
            for at, residue in enumerate(point):
                folded = folded_table(prime, folded, residue)
                self.assertIs(folded.__class__, tuple)
                self.assertEqual(len(folded), 2 ** (many - at - 1))
                for index, place in enumerate(places(many - at - 1)):
                    self.assertEqual(folded[index], value_by_rule(prime, table, point[:at + 1] + place))
            self.assertEqual(folded, (table_value(prime, table, point),))

    def test_folding_takes_the_first_name(self):
        self.assertEqual(folded_table(7, (1, 2, 3, 4), 0), (1, 2))
        self.assertEqual(folded_table(7, (1, 2, 3, 4), 1), (3, 4))
        self.assertEqual(folded_table(7, (0, 1), 5), (5,))


class Lines(unittest.TestCase):
    def test_lines(self):
        source = numbers(15)
        for prime in PRIMES:
            for many in range(7):
                table = residues(source, prime, 2 ** many)
                one, other = residues(source, prime, many), residues(source, prime, many)
                line = along_line(prime, table, one, other)
                self.assertIs(line.__class__, tuple)
                self.assertEqual(len(line), many + 1)
                self.assertEqual(line, line_by_rule(prime, table, one, other))
                self.assertEqual(value_at(prime, line, 0), table_value(prime, table, one))
                self.assertEqual(value_at(prime, line, 1), table_value(prime, table, other))
                for t in (2, prime - 1, source.randrange(prime)):
                    point = tuple((a + t * (b - a)) % prime for a, b in zip(one, other))
                    self.assertEqual(value_at(prime, line, t), table_value(prime, table, point))

    def test_line_from_a_point_to_itself(self):
        self.assertEqual(along_line(7, (1, 2, 3, 4), (3, 5), (3, 5)), (5, 0, 0))

    def test_powers_are_not_lowered(self):
        # The product of six names, each of them t: t ** 6, also where t ** 3 has the values of t.
        table = (0,) * 63 + (1,)
        self.assertEqual(along_line(3, table, (0,) * 6, (1,) * 6), (0, 0, 0, 0, 0, 0, 1))


if __name__ == '__main__':
    unittest.main()
