"""Lists, their piles, and rows: told ones are checked by the values of piles.

Functions whose names begin with raw_ take what is already known to be right, and know no
greatest length.
"""

from fewthrows.checks import are_residues, check_between, check_prime, check_residue
from fewthrows.errors import BadList, BadPlaces, BadRows, BadWidth, TooFew, TooGreat, Unequal
from fewthrows.polynomials import check_not_great, raw_value

MOST_ENTRIES = 40
MOST_WIDTH = 4
GREATEST_FOR_PAIRS = 101


def raw_pile_value(prime, entries, residue):
    """The product of residue - entry over all entries."""
    value = 1
    for entry in entries:
        value = value * (residue - entry) % prime
    return value


def raw_piles_letting(prime, one, other):
    """How many residues z let, at which both piles have the same value."""
    return len([
        z for z in range(prime)
        if raw_pile_value(prime, one, z) == raw_pile_value(prime, other, z)
    ])


def raw_folded_rows(prime, rows, residue):
    """The list of the rows folded at the residue."""
    return tuple([raw_value(prime, row, residue) for row in rows])


def raw_lets_rows(prime, one, other, y, z):
    """Whether the piles of the rows, folded at y, have the same value at z."""
    left = raw_pile_value(prime, raw_folded_rows(prime, one, y), z)
    return left == raw_pile_value(prime, raw_folded_rows(prime, other, y), z)


def raw_throws_letting(prime, one, other):
    """How many pairs (y, z) let."""
    return sum([
        raw_piles_letting(prime, raw_folded_rows(prime, one, y), raw_folded_rows(prime, other, y))
        for y in range(prime)
    ])


def check_list(prime, value):
    """Raise BadList unless value is a list."""
    if not are_residues(prime, value, 0, MOST_ENTRIES):
        raise BadList(value)


def are_rows(prime, value):
    """Whether value is a list of rows."""
    if not isinstance(value, tuple) or len(value) > MOST_ENTRIES:
        return False
    if not all([are_residues(prime, row, 1, MOST_WIDTH) for row in value]):
        return False
    return all([len(row) == len(value[0]) for row in value])


def check_rows(prime, value):
    """Raise BadRows unless value is a list of rows."""
    if not are_rows(prime, value):
        raise BadRows(value)


def check_equal(many, other):
    """Raise Unequal unless these two lengths are the same."""
    if many != other:
        raise Unequal((many, other))


def check_two_lists(prime, one, other):
    """Raise BadPrime, BadList or Unequal unless one and other are lists of one length."""
    check_prime(prime)
    check_list(prime, one)
    check_list(prime, other)
    check_equal(len(one), len(other))


def check_two_rows(prime, one, other):
    """Raise BadPrime, BadRows, Unequal or BadWidth unless one and other are rows of one shape."""
    check_prime(prime)
    check_rows(prime, one)
    check_rows(prime, other)
    check_equal(len(one), len(other))
    if len(one) > 0 and len(one[0]) != len(other[0]):
        raise BadWidth((len(one[0]), len(other[0])))


def check_enough(prime, entries):
    """Raise TooFew if there are more entries than residues."""
    if len(entries) > prime:
        raise TooFew(prime)


def same_pile(prime, one, other):
    """Whether both lists have the same pile."""
    check_prime(prime)
    check_list(prime, one)
    check_list(prime, other)
    return sorted(one) == sorted(other)


def pile_value(prime, entries, residue):
    """The value of the pile of the entries at the residue."""
    check_prime(prime)
    check_list(prime, entries)
    check_residue(prime, residue)
    return raw_pile_value(prime, entries, residue)


def lets_pile(prime, one, other, residue):
    """Whether both piles have the same value at the residue."""
    check_two_lists(prime, one, other)
    check_residue(prime, residue)
    return raw_pile_value(prime, one, residue) == raw_pile_value(prime, other, residue)


def piles_letting(prime, one, other):
    """How many residues let, at which both piles have the same value."""
    check_two_lists(prime, one, other)
    check_not_great(prime)
    return raw_piles_letting(prime, one, other)


def grown_value(prime, value, residue, entry):
    """The value of a pile at the residue, if it was value ahead of one entry more."""
    check_prime(prime)
    check_residue(prime, value)
    check_residue(prime, residue)
    check_residue(prime, entry)
    return value * (residue - entry) % prime


def lets_merged(prime, one, other, both, residue):
    """Whether the value of both's pile is the product of those of one's and other's."""
    check_prime(prime)
    check_list(prime, one)
    check_list(prime, other)
    check_list(prime, both)
    check_equal(len(one) + len(other), len(both))
    check_residue(prime, residue)
    # Both lists behind one another have this product as the value of their pile.
    return raw_pile_value(prime, one + other, residue) == raw_pile_value(prime, both, residue)


def lets_sorted(prime, one, other, residue):
    """Whether other ascends, equal residues let, and has the value of one's pile at the residue."""
    check_two_lists(prime, one, other)
    check_residue(prime, residue)
    if not all([left <= right for left, right in zip(other, other[1:])]):
        return False
    return raw_pile_value(prime, one, residue) == raw_pile_value(prime, other, residue)


def lets_each_once(prime, entries, residue):
    """Whether the entries' pile has the value of that of 0, 1, .. at the residue."""
    check_prime(prime)
    check_list(prime, entries)
    check_enough(prime, entries)
    check_residue(prime, residue)
    each_once = list(range(len(entries)))
    return raw_pile_value(prime, entries, residue) == raw_pile_value(prime, each_once, residue)


def folded_rows(prime, rows, residue):
    """The list of the rows folded at the residue, in their order."""
    check_prime(prime)
    check_rows(prime, rows)
    check_residue(prime, residue)
    return raw_folded_rows(prime, rows, residue)


def lets_rows(prime, one, other, y, z):
    """Whether the piles of the rows, folded at y, have the same value at z."""
    check_two_rows(prime, one, other)
    check_residue(prime, y)
    check_residue(prime, z)
    return raw_lets_rows(prime, one, other, y, z)


def throws_letting(prime, one, other):
    """How many pairs (y, z) let the rows."""
    check_two_rows(prime, one, other)
    if prime > GREATEST_FOR_PAIRS:
        raise TooGreat(GREATEST_FOR_PAIRS)
    return raw_throws_letting(prime, one, other)


def rows_bound(prime, many, width):
    """How many pairs (y, z) at most let so many rows of this width that are not the same."""
    check_prime(prime)
    check_between(many, 0, MOST_ENTRIES)
    check_between(width, 1, MOST_WIDTH)
    folds = min(many * (width - 1), prime)
    values = min(max(many - 1, 0), prime)
    return prime * folds + (prime - folds) * values


def lets_shuffle(prime, one, other, places, y, z):
    """Whether one with the numbers 0, 1, .. lets other with the numbers places."""
    check_two_lists(prime, one, other)
    if not are_residues(prime, places, len(one), len(one)):
        raise BadPlaces(places)
    check_enough(prime, one)
    check_residue(prime, y)
    check_residue(prime, z)
    return raw_lets_rows(prime, tuple(enumerate(one)), tuple(zip(places, other)), y, z)
