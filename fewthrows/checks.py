"""What several modules ask of the arguments that are passed to them."""

from math import isqrt

from fewthrows.errors import BadNumber, BadPoint, BadPrime, BadResidue

GREATEST_PRIME = 1000003


def is_integer(value):
    """Whether value is an int that is not a bool."""
    return isinstance(value, int) and not isinstance(value, bool)


def is_prime(value):
    """Whether value is an odd prime from 3 to the greatest one that is let."""
    if not is_integer(value) or value < 3 or value > GREATEST_PRIME or value % 2 == 0:
        return False
    for divisor in range(3, isqrt(value) + 1, 2):
        if value % divisor == 0:
            return False
    return True


def is_residue(prime, value):
    """Whether value is an integer from 0 to prime - 1."""
    return is_integer(value) and 0 <= value < prime


def are_residues(prime, value, least, most):
    """Whether value is a tuple of residues, at least least and at most most of them."""
    # The length comes first: a tuple that is far too long is not gone through.
    if not isinstance(value, tuple) or not least <= len(value) <= most:
        return False
    return all([is_residue(prime, part) for part in value])


def check_prime(prime):
    """Raise BadPrime unless prime is a prime."""
    if not is_prime(prime):
        raise BadPrime(prime)


def check_residue(prime, value):
    """Raise BadResidue unless value is a residue."""
    if not is_residue(prime, value):
        raise BadResidue(value)


def check_point(prime, value, many):
    """Raise BadPoint unless value is a tuple of so many residues."""
    if not are_residues(prime, value, many, many):
        raise BadPoint(value)


def check_between(value, least, most):
    """Raise BadNumber unless value is an integer from least to most."""
    if not is_integer(value) or not least <= value <= most:
        raise BadNumber(value)
