"""Three looks (points 17 and 3)."""

import itertools
import unittest

from fewthrows.errors import BadBits, BadNumber
from fewthrows.threelooks import mended_bits, nearest_straight, pairs_let, rows_let, straight_distances, straight_table
from tests.support import NO_NUMBERS, TriedCases, Wrong, numbers, said_by

NO_BITS = NO_NUMBERS + [
    0, 1, (0, 1, 0), (0, 2), (0, -1), (True, 0), (0, False), [0, 1], (0, None), (0, '1'), ((0, 1),), (0,) * 512, (0,) * 255, (0,) * 257, (1,) * 6,
    (0, 1.0), '01', {0: 1}, (0,) * 100000,
]
BITS = (BadBits, NO_BITS)
NO_COUNTS = NO_NUMBERS + [41, 42, 1000]
CASES = [
    Wrong(straight_table, {'many': 3, 'mask': 5}, {'many': (BadNumber, NO_NUMBERS + [9, 10, 256]), 'mask': (BadNumber, NO_NUMBERS + [8, 9, 256])}),
    Wrong(pairs_let, {'bits': (0, 1, 1, 0)}, {'bits': BITS}),
    Wrong(straight_distances, {'bits': (0, 1, 1, 0)}, {'bits': BITS}),
    Wrong(nearest_straight, {'bits': (0, 1, 1, 0)}, {'bits': BITS}),
    Wrong(mended_bits, {'bits': (0, 1, 1, 0)}, {'bits': BITS}),
    Wrong(rows_let, {'bits': (0, 1, 1, 0), 'many': 3}, {'bits': BITS, 'many': (BadNumber, NO_COUNTS)}),
]


def straight(many, mask):
    return tuple(bin(place & mask).count('1') % 2 for place in range(2 ** many))


def some_bits(seeds, most=8):
    for seed in seeds:
        source = numbers(seed)
        many = source.randint(0, most)
        size = 2 ** many
        one, other = (straight(many, source.randrange(size)) for _ in range(2))
        bent = list(one)
        for _ in range(source.randint(0, max(1, size // 4))):
            bent[source.randrange(size)] ^= 1
        lone = [source.randrange(2)] * size
        lone[source.randrange(size)] ^= 1
        for bits in (one, tuple(bent), tuple(left & right for left, right in zip(one, other)), tuple(lone), tuple(source.randrange(2) for _ in range(size))):
            yield many, bits


def looked(bits):
    """The number of pairs that are let, gone through one by one."""
    return sum(bits[x ^ y] == (bits[x] != bits[y]) for x in range(len(bits)) for y in range(len(bits)))


class Arguments(TriedCases, unittest.TestCase):
    cases = CASES

    def test_edges(self):
        for many in range(9):
            size = 2 ** many
            self.assertEqual(straight_table(many, size - 1), straight(many, size - 1))
            for mask in (size, size + 1, -1, 2 * size):
                raised = said_by(self, straight_table, {'many': many, 'mask': mask})
                self.assertEqual((raised.__class__, raised.value), (BadNumber, mask))
            self.assertEqual(rows_let((0,) * size, 40), (size ** 80, size ** 80))
            self.assertEqual(rows_let((1,) * size, 0), (1, 1))
        self.assertEqual(straight_table(0, 0), (0,))


class Looks(unittest.TestCase):
    def test_straight(self):
        for many in range(7):
            for mask in range(2 ** many):
                bits = straight_table(many, mask)
                self.assertEqual(bits, straight(many, mask))
                self.assertEqual(nearest_straight(bits), (0, (mask,)))
                self.assertEqual(mended_bits(bits), bits)
                self.assertEqual(pairs_let(bits), 4 ** many)
        for mask in (0, 1, 128, 200, 255):
            self.assertEqual(straight_table(8, mask), straight(8, mask))
            self.assertEqual(pairs_let(straight_table(8, mask)), 256 * 256)

    def test_one_by_one(self):
        for many, bits in some_bits(range(40)):
            size = 2 ** many
            let = looked(bits)
            self.assertEqual(pairs_let(bits), let)
            distances = tuple(sum(left != right for left, right in zip(bits, straight(many, mask))) for mask in range(size))
            self.assertEqual(straight_distances(bits), distances)
            least = min(distances)
            self.assertEqual(nearest_straight(bits), (least, tuple(mask for mask in range(size) if distances[mask] == least)))
            self.assertEqual(2 * size * let, size ** 3 + sum((size - 2 * distance) ** 3 for distance in distances))
            self.assertGreaterEqual(size * size - let, size * least)
            mended = []
            for x in range(size):
                ones = [bits[x ^ y] != bits[y] for y in range(size)]
                mended.append(None if ones.count(True) == ones.count(False) else int(ones.count(True) > ones.count(False)))
            self.assertEqual(mended_bits(bits), tuple(mended))
            self.assertEqual({bit.__class__ for bit in mended_bits(bits)} - {int, type(None)}, set())
            if 4 * least < size:
                self.assertEqual(mended_bits(bits), straight(many, nearest_straight(bits)[1][0]))
                self.assertEqual(len(nearest_straight(bits)[1]), 1)
            for rows in (0, 1, 3, 40):
                self.assertEqual(rows_let(bits, rows), (let ** rows, size ** (2 * rows)))

    def test_all_tables_of_two_names(self):
        for many in (0, 1, 2):
            for bits in itertools.product((0, 1), repeat=2 ** many):
                self.assertEqual(pairs_let(bits), looked(bits))
                self.assertEqual(pairs_let(bits) == 4 ** many, bits in [straight(many, mask) for mask in range(2 ** many)])

    def test_just_a_quarter(self):
        # At a distance of just a quarter there can be several masks, and mended bits with just half.
        bits = (0, 0, 0, 1)
        self.assertEqual((nearest_straight(bits), mended_bits(bits)), ((1, (0, 1, 2)), (0, None, None, None)))
        wide = bits * 4
        self.assertEqual(nearest_straight(wide), (4, (0, 1, 2)))
        near = list(straight(4, 9))
        for place in (1, 6, 11):
            near[place] ^= 1
        self.assertEqual((nearest_straight(tuple(near)), mended_bits(tuple(near))), ((3, (9,)), straight(4, 9)))

    def test_constant_one(self):
        self.assertEqual([pairs_let((1,)), mended_bits((1,)), nearest_straight((1,))], [0, (0,), (1, (0,))])
        self.assertEqual([pairs_let((1, 1)), mended_bits((1, 1)), straight_distances((1, 1))], [0, (0, 0), (2, 1)])


if __name__ == '__main__':
    unittest.main()
