"""Residues modulo a prime.

The function whose name begins with raw_ takes what is already known to be right.
"""

from fewthrows.checks import check_prime, check_residue
from fewthrows.errors import BadResidue


def raw_inverse(prime, residue):
    """The residue whose product with residue, which is not 0, is 1."""
    # Each of high and low is residue times its factor, but for multiples of prime.
    high, high_factor = prime, 0
    low, low_factor = residue, 1
    while low:
        times = high // low
        high, low = low, high - times * low
        high_factor, low_factor = low_factor, high_factor - times * low_factor
    return high_factor % prime


def inverse_of(prime, residue):
    """The residue whose product with this one is 1."""
    check_prime(prime)
    check_residue(prime, residue)
    if residue == 0:
        raise BadResidue(residue)
    return raw_inverse(prime, residue)
