"""Three looks: whether a table of bits is straight, seen at two places and at a third one."""

from fewthrows.checks import check_between
from fewthrows.errors import BadBits
from fewthrows.powers import power_of
from fewthrows.tables import is_bit

MOST_NAMES = 8
LENGTHS = (1, 2, 4, 8, 16, 32, 64, 128, 256)
MOST_PAIRS = 40


def check_bits(value):
    """Raise BadBits unless value is a bit table."""
    if not isinstance(value, tuple) or len(value) not in LENGTHS:
        raise BadBits(value)
    if not all([is_bit(part) for part in value]):
        raise BadBits(value)


def oddness(number):
    """1 if an odd number of the binary figures is 1, otherwise 0."""
    odd = 0
    while number > 0:
        odd = odd ^ (number & 1)
        number = number >> 1
    return odd


def raw_pairs_let(bits):
    """How many pairs of places are let."""
    let = 0
    for x, one in enumerate(bits):
        for y, other in enumerate(bits):
            if bits[x ^ y] == one ^ other:
                let += 1
    return let


def raw_distances(bits):
    """For each mask the distance from its straight table."""
    odd = [oddness(number) for number in range(len(bits))]
    return tuple([
        len([place for place, bit in enumerate(bits) if bit != odd[place & mask]])
        for mask in range(len(bits))
    ])


def mended_bit(bits, x):
    """What most places y say that the bit at x has to be; None if there is no most."""
    ones = 0
    for y, bit in enumerate(bits):
        ones += bits[x ^ y] ^ bit
    if 2 * ones == len(bits):
        return None
    return 1 if 2 * ones > len(bits) else 0


def straight_table(many, mask):
    """The straight table of this mask, of so many names."""
    check_between(many, 0, MOST_NAMES)
    check_between(mask, 0, LENGTHS[many] - 1)
    return tuple([oddness(place & mask) for place in range(LENGTHS[many])])


def pairs_let(bits):
    """How many of all pairs of places are let."""
    check_bits(bits)
    return raw_pairs_let(bits)


def straight_distances(bits):
    """For each mask the distance of the bit table from its straight table."""
    check_bits(bits)
    return raw_distances(bits)


def nearest_straight(bits):
    """The least distance from a straight table, and the ascending tuple of the masks with it."""
    check_bits(bits)
    distances = raw_distances(bits)
    least = min(distances)
    return (least, tuple([mask for mask, distance in enumerate(distances) if distance == least]))


def mended_bits(bits):
    """For each place the bit that most pairs of others say it has; None where it is just half."""
    check_bits(bits)
    return tuple([mended_bit(bits, x) for x in range(len(bits))])


def rows_let(bits, many):
    """How many rows of so many pairs have all of them let, and how many rows there are."""
    check_bits(bits)
    check_between(many, 0, MOST_PAIRS)
    return (power_of(raw_pairs_let(bits), many), power_of(len(bits) * len(bits), many))
