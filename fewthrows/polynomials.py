"""Polynomials: tuples of residues, the coefficient of the power 0 first.

Functions whose names begin with raw_ take what is already known to be right, and
know no greatest number of coefficients.
"""

from fewthrows.checks import are_residues, check_prime, check_residue, is_residue
from fewthrows.errors import BadNoughts, BadPoints, BadPolynomial, BadResidue, TooGreat
from fewthrows.residues import raw_inverse

MOST_COEFFICIENTS = 200
GREATEST_TO_TRY = 1009


def raw_value(prime, poly, residue):
    """The value of the polynomial at the residue; 0 if it has no coefficients."""
    value = 0
    for coefficient in reversed(poly):
        value = (value * residue + coefficient) % prime
    return value


def raw_scaled(prime, poly, residue):
    """The polynomial with each coefficient multiplied by the residue."""
    return tuple([coefficient * residue % prime for coefficient in poly])


def raw_sum(prime, one, other):
    """The sum, with as many coefficients as the longer one has."""
    if len(one) < len(other):
        one, other = other, one
    both = [(left + right) % prime for left, right in zip(one, other)]
    return tuple(both) + one[len(other):]


def raw_difference(prime, one, other):
    """one less other, with as many coefficients as the longer one has."""
    return raw_sum(prime, one, raw_scaled(prime, other, prime - 1))


def raw_product(prime, one, other):
    """The product, with as many coefficients as both have together, less 1."""
    sums = [0] * (len(one) + len(other) - 1)
    for power, left in enumerate(one):
        for above, right in enumerate(other):
            sums[power + above] += left * right
    return tuple([part % prime for part in sums])


def raw_with_noughts(prime, noughts):
    """The product of x - nought over all noughts."""
    poly = (1,)
    for nought in noughts:
        poly = raw_product(prime, poly, (-nought % prime, 1))
    return poly


def raw_through(prime, points):
    """The polynomial with as many coefficients as points that goes through them."""
    poly = ()
    # zero is 0 at all points so far: multiples of it keep the values there.
    zero = (1,)
    for residue, value in points:
        lack = value - raw_value(prime, poly, residue)
        factor = lack * raw_inverse(prime, raw_value(prime, zero, residue)) % prime
        poly = raw_sum(prime, raw_scaled(prime, zero, factor), poly)
        zero = raw_product(prime, zero, (-residue % prime, 1))
    return poly


def raw_with(prime, noughts, residue, value):
    """The polynomial that is 0 at the noughts, and has this value at residue."""
    poly = raw_with_noughts(prime, noughts)
    factor = value * raw_inverse(prime, raw_value(prime, poly, residue)) % prime
    return raw_scaled(prime, poly, factor)


def raw_noughts(prime, poly):
    """The ascending tuple of the residues at which the polynomial is 0."""
    return tuple([residue for residue in range(prime) if raw_value(prime, poly, residue) == 0])


def check_polynomial(prime, value):
    """Raise BadPolynomial unless value is a polynomial."""
    if not are_residues(prime, value, 1, MOST_COEFFICIENTS):
        raise BadPolynomial(value)


def is_pair(prime, value):
    """Whether value is a pair of residues."""
    return are_residues(prime, value, 2, 2)


def are_points(prime, value):
    """Whether value is a tuple of pairs of residues, the first ones unlike."""
    if not isinstance(value, tuple) or not 1 <= len(value) <= MOST_COEFFICIENTS:
        return False
    if not all([is_pair(prime, part) for part in value]):
        return False
    return len({part[0] for part in value}) == len(value)


def are_noughts(prime, value):
    """Whether value is an ascending tuple of residues, fewer than a polynomial may have."""
    if not are_residues(prime, value, 0, MOST_COEFFICIENTS - 1):
        return False
    return all([left < right for left, right in zip(value, value[1:])])


def check_not_great(prime):
    """Raise TooGreat if there are too many residues to try all of them."""
    if prime > GREATEST_TO_TRY:
        raise TooGreat(GREATEST_TO_TRY)


def value_at(prime, poly, residue):
    """The value of the polynomial at the residue."""
    check_prime(prime)
    check_polynomial(prime, poly)
    check_residue(prime, residue)
    return raw_value(prime, poly, residue)


def poly_sum(prime, one, other):
    """The sum, with as many coefficients as the longer one has."""
    check_prime(prime)
    check_polynomial(prime, one)
    check_polynomial(prime, other)
    return raw_sum(prime, one, other)


def poly_product(prime, one, other):
    """The product, with as many coefficients as both have together, less 1."""
    check_prime(prime)
    check_polynomial(prime, one)
    check_polynomial(prime, other)
    return raw_product(prime, one, other)


def trimmed_poly(prime, poly):
    """The polynomial without the coefficients 0 at its end; one is left at least."""
    check_prime(prime)
    check_polynomial(prime, poly)
    many = len(poly)
    while many > 1 and poly[many - 1] == 0:
        many -= 1
    return poly[:many]


def poly_through(prime, points):
    """The only polynomial with as many coefficients as points that goes through them."""
    check_prime(prime)
    if not are_points(prime, points):
        raise BadPoints(points)
    return raw_through(prime, points)


def poly_with(prime, noughts, residue, value):
    """The polynomial, one coefficient longer than noughts, with these and this value."""
    check_prime(prime)
    if not are_noughts(prime, noughts):
        raise BadNoughts(noughts)
    if not is_residue(prime, residue) or residue in noughts:
        raise BadResidue(residue)
    check_residue(prime, value)
    return raw_with(prime, noughts, residue, value)


def noughts_of(prime, poly):
    """The ascending tuple of the residues at which the polynomial is 0."""
    check_prime(prime)
    check_polynomial(prime, poly)
    check_not_great(prime)
    return raw_noughts(prime, poly)


def agree_at(prime, one, other):
    """The ascending tuple of the residues at which both have the same value."""
    check_prime(prime)
    check_polynomial(prime, one)
    check_polynomial(prime, other)
    check_not_great(prime)
    return raw_noughts(prime, raw_difference(prime, one, other))
