"""Tables: a residue for each place, and the one polynomial that has them as values.

Functions whose names begin with raw_ take what is already known to be right.
"""

from fewthrows.checks import are_residues, check_point, check_prime, check_residue, is_integer
from fewthrows.errors import BadPlace, BadTable
from fewthrows.polynomials import raw_difference, raw_product, raw_sum

MOST_NAMES = 6
# The number of names of a table is the index of its length here.
LENGTHS = (1, 2, 4, 8, 16, 32, 64)


def raw_folded(prime, table, residue):
    """The table of one name less, the first name being at the residue."""
    half = len(table) // 2
    return tuple([
        (low + residue * (high - low)) % prime
        for low, high in zip(table[:half], table[half:])
    ])


def raw_table_value(prime, table, point):
    """The value of the table at the point."""
    for residue in point:
        table = raw_folded(prime, table, residue)
    return table[0]


def raw_weight(prime, place, point):
    """The weight of the place at the point."""
    weight = 1
    for bit, residue in zip(place, point):
        factor = residue if bit == 1 else 1 - residue
        weight = weight * factor % prime
    return weight


def raw_mixed(prime, low, high, along):
    """low + along * (high - low), all of them polynomials."""
    rise = raw_product(prime, along, raw_difference(prime, high, low))
    return raw_sum(prime, low, rise)


def raw_along_line(prime, table, one, other):
    """The polynomial in t of the table at one + t * (other - one)."""
    polys = [(residue,) for residue in table]
    for start, end in zip(one, other):
        along = (start, (end - start) % prime)
        half = len(polys) // 2
        polys = [
            raw_mixed(prime, low, high, along)
            for low, high in zip(polys[:half], polys[half:])
        ]
    return polys[0]


def names_many(table):
    """How many names the table has."""
    return LENGTHS.index(len(table))


def is_bit(value):
    """Whether value is the integer 0 or 1."""
    return is_integer(value) and 0 <= value <= 1


def is_place(value):
    """Whether value is a place, of any number of names."""
    if not isinstance(value, tuple) or len(value) > MOST_NAMES:
        return False
    return all([is_bit(part) for part in value])


def check_table(prime, value):
    """Raise BadTable unless value is a table."""
    if not are_residues(prime, value, 1, LENGTHS[MOST_NAMES]) or len(value) not in LENGTHS:
        raise BadTable(value)


def table_value(prime, table, point):
    """The value of the table at the point."""
    check_prime(prime)
    check_table(prime, table)
    check_point(prime, point, names_many(table))
    return raw_table_value(prime, table, point)


def place_weight(prime, place, point):
    """The weight of the place at the point."""
    check_prime(prime)
    if not is_place(place):
        raise BadPlace(place)
    check_point(prime, point, len(place))
    return raw_weight(prime, place, point)


def folded_table(prime, table, residue):
    """The table of one name less, the first name being at the residue."""
    check_prime(prime)
    check_table(prime, table)
    if len(table) == 1:
        raise BadTable(table)
    check_residue(prime, residue)
    return raw_folded(prime, table, residue)


def along_line(prime, table, one, other):
    """The polynomial in t of the table at one + t * (other - one), name by name."""
    check_prime(prime)
    check_table(prime, table)
    check_point(prime, one, names_many(table))
    check_point(prime, other, names_many(table))
    return raw_along_line(prime, table, one, other)
