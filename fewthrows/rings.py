"""What names, calls and bodies can stand for: residues, or polynomials in one name.

Both rings have the same methods, so that one road through a text serves for both.
"""

from fewthrows.polynomials import raw_difference, raw_product, raw_sum
from fewthrows.tables import raw_folded, raw_mixed


class ResidueRing:
    """Residues."""

    def __init__(self, prime):
        self.prime = prime

    def plain(self, residue):
        """What stands for this residue."""
        return residue

    def plus(self, one, other):
        """The sum."""
        return (one + other) % self.prime

    def minus(self, one, other):
        """The difference."""
        return (one - other) % self.prime

    def times(self, one, other):
        """The product."""
        return one * other % self.prime

    def folded(self, table, along):
        """The table of one name less, the first name standing for along."""
        return raw_folded(self.prime, table, along)


class PolynomialRing:
    """Polynomials; one that is a residue has one coefficient."""

    def __init__(self, prime):
        self.prime = prime

    def plain(self, residue):
        """What stands for this residue."""
        return (residue,)

    def plus(self, one, other):
        """The sum."""
        return raw_sum(self.prime, one, other)

    def minus(self, one, other):
        """The difference."""
        return raw_difference(self.prime, one, other)

    def times(self, one, other):
        """The product."""
        return raw_product(self.prime, one, other)

    def folded(self, table, along):
        """The table of one name less, the first name standing for along."""
        half = len(table) // 2
        return tuple([
            raw_mixed(self.prime, low, high, along)
            for low, high in zip(table[:half], table[half:])
        ])


def joined(ring, word, low, high, at):
    """What an operator makes of what stands behind it, its name standing for 0 and for 1.

    at is what its name stands for; it counts for low alone.
    """
    if word == 'sum':
        return ring.plus(low, high)
    if word == 'all':
        return ring.times(low, high)
    one = ring.plain(1)
    if word == 'some':
        return ring.minus(one, ring.times(ring.minus(one, low), ring.minus(one, high)))
    return ring.plus(ring.times(ring.minus(one, at), low), ring.times(at, high))


def signed(ring, sign, one, other):
    """What a sign of a body makes of what it joins."""
    if sign == '+':
        return ring.plus(one, other)
    if sign == '-':
        return ring.minus(one, other)
    return ring.times(one, other)


def raised(ring, one, power):
    """The power of one; power is 1 at least."""
    product = one
    for _ in range(power - 1):
        product = ring.times(product, one)
    return product
