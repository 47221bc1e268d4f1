"""Products of matrices, and checks of told products by thrown vectors.

Functions whose names begin with raw_ take what is already known to be right.
"""

from fewthrows.checks import are_residues, check_prime, check_residue
from fewthrows.errors import BadMatrices, BadMatrix, BadShape, BadVector
from fewthrows.polynomials import check_not_great, raw_difference, raw_scaled, raw_value
from fewthrows.powers import power_of
from fewthrows.residues import raw_inverse

MOST_ROWS = 8
MOST_COLUMNS = 8
MOST_MATRICES = 8


def is_matrix(prime, value):
    """Whether value is a matrix."""
    if not isinstance(value, tuple) or not 1 <= len(value) <= MOST_ROWS:
        return False
    if not all([are_residues(prime, row, 1, MOST_COLUMNS) for row in value]):
        return False
    return all([len(row) == len(value[0]) for row in value])


def check_matrix(prime, value):
    """Raise BadMatrix unless value is a matrix."""
    if not is_matrix(prime, value):
        raise BadMatrix(value)


def check_vector(prime, value, many):
    """Raise BadVector unless value is a vector of so many residues."""
    if not are_residues(prime, value, many, many):
        raise BadVector(value)


def columns_many(matrix):
    """How many columns the matrix has."""
    return len(matrix[0])


def check_neighbours(matrices):
    """Raise BadShape for the first two neighbours that cannot be multiplied."""
    for left, right in zip(matrices, matrices[1:]):
        if columns_many(left) != len(right):
            raise BadShape((columns_many(left), len(right)))


def check_shapes(matrices, claim):
    """Raise BadShape unless the matrices can be multiplied to one of the shape of claim."""
    check_neighbours(matrices)
    shape = (len(claim), columns_many(claim))
    if shape != (len(matrices[0]), columns_many(matrices[-1])):
        raise BadShape(shape)


def check_claimed(prime, one, other, claim):
    """Raise BadPrime, BadMatrix or BadShape unless one times other can be claim."""
    check_prime(prime)
    check_matrix(prime, one)
    check_matrix(prime, other)
    check_matrix(prime, claim)
    check_shapes((one, other), claim)


def check_matrices(prime, value):
    """Raise BadMatrices or BadMatrix unless value is a tuple of matrices."""
    if not isinstance(value, tuple) or not 1 <= len(value) <= MOST_MATRICES:
        raise BadMatrices(value)
    for part in value:
        check_matrix(prime, part)


def raw_dot(prime, one, other):
    """The sum of the products of the residues of two vectors."""
    return sum([left * right for left, right in zip(one, other)]) % prime


def raw_times(prime, matrix, vector):
    """The matrix times the vector."""
    return tuple([raw_dot(prime, row, vector) for row in matrix])


def raw_matrix_product(prime, one, other):
    """one times other."""
    columns = list(zip(*other))
    return tuple([raw_times(prime, columns, row) for row in one])


def raw_lack(prime, one, other, claim):
    """one times other less claim."""
    product = raw_matrix_product(prime, one, other)
    return tuple([raw_difference(prime, right, told) for right, told in zip(product, claim)])


def raw_cleared(prime, row, first, column):
    """The row less so much of first, which has 1 in this column, that it has 0 there."""
    return raw_difference(prime, row, raw_scaled(prime, first, row[column]))


def raw_reduced(prime, rows, columns):
    """The reduced rows of rows that have so many columns."""
    reduced = []
    for column in range(columns):
        found = [row for row in rows if row[column] != 0]
        if len(found) > 0:
            first = raw_scaled(prime, found[0], raw_inverse(prime, found[0][column]))
            # The row that was found becomes one of 0 alone, and is not found again.
            rows = [raw_cleared(prime, row, first, column) for row in rows]
            reduced = [raw_cleared(prime, row, first, column) for row in reduced] + [first]
    return tuple(reduced)


def raw_rank(prime, matrix):
    """The rank of the matrix."""
    return len(raw_reduced(prime, matrix, columns_many(matrix)))


def vector_of_nought(prime, reduced, columns, column):
    """The vector that reduced rows make 0, with 1 in this column of those that begin no row."""
    vector = [0] * columns
    vector[column] = 1
    for row in reduced:
        vector[row.index(1)] = -row[column] % prime
    return tuple(vector)


def powers_vector(prime, residue, many):
    """The vector of the first powers of the residue, so many, 1 first."""
    powers = [1]
    for _ in range(many - 1):
        powers.append(powers[-1] * residue % prime)
    return tuple(powers)


def raw_lets_vector(prime, matrices, claim, vector):
    """Whether the vector comes to the same by all matrices, the last one first, and by claim."""
    reached = vector
    for matrix in reversed(matrices):
        reached = raw_times(prime, matrix, reached)
    return reached == raw_times(prime, claim, vector)


def matrix_product(prime, one, other):
    """one times other."""
    check_prime(prime)
    check_matrix(prime, one)
    check_matrix(prime, other)
    check_neighbours((one, other))
    return raw_matrix_product(prime, one, other)


def matrix_times(prime, one, vector):
    """The matrix times the vector."""
    check_prime(prime)
    check_matrix(prime, one)
    check_vector(prime, vector, columns_many(one))
    return raw_times(prime, one, vector)


def reduced_rows(prime, one):
    """The rows of the one reduced matrix that can be made from this one, without those of 0."""
    check_prime(prime)
    check_matrix(prime, one)
    return raw_reduced(prime, one, columns_many(one))


def matrix_rank(prime, one):
    """How many reduced rows the matrix has."""
    check_prime(prime)
    check_matrix(prime, one)
    return raw_rank(prime, one)


def lets_vector(prime, one, other, claim, vector):
    """Whether one times (other times the vector) is claim times the vector."""
    check_claimed(prime, one, other, claim)
    check_vector(prime, vector, columns_many(claim))
    return raw_lets_vector(prime, (one, other), claim, vector)


def vectors_letting(prime, one, other, claim):
    """How many of all vectors let the claim."""
    check_claimed(prime, one, other, claim)
    rank = raw_rank(prime, raw_lack(prime, one, other, claim))
    return power_of(prime, columns_many(claim) - rank)


def letting_rows(prime, one, other, claim):
    """The reduced rows of which all vectors that let the claim are sums of multiples."""
    check_claimed(prime, one, other, claim)
    columns = columns_many(claim)
    reduced = raw_reduced(prime, raw_lack(prime, one, other, claim), columns)
    begun = [row.index(1) for row in reduced]
    vectors = [
        vector_of_nought(prime, reduced, columns, column)
        for column in range(columns) if column not in begun
    ]
    return raw_reduced(prime, vectors, columns)


def lets_pair(prime, one, other, claim, left, right):
    """Whether left has the same product with one times (other times right) as with claim times right."""
    check_claimed(prime, one, other, claim)
    check_vector(prime, left, len(claim))
    check_vector(prime, right, columns_many(claim))
    true = raw_times(prime, one, raw_times(prime, other, right))
    return raw_dot(prime, left, true) == raw_dot(prime, left, raw_times(prime, claim, right))


def pairs_letting(prime, one, other, claim):
    """How many of all pairs of a left and a right vector let the claim."""
    check_claimed(prime, one, other, claim)
    rank = raw_rank(prime, raw_lack(prime, one, other, claim))
    free = len(claim) + columns_many(claim) - 1
    return power_of(prime, free) + (prime - 1) * power_of(prime, free - rank)


def lets_power(prime, one, other, claim, residue):
    """Whether the vector of the powers of the residue lets the claim."""
    check_claimed(prime, one, other, claim)
    check_residue(prime, residue)
    vector = powers_vector(prime, residue, columns_many(claim))
    return raw_lets_vector(prime, (one, other), claim, vector)


def powers_letting(prime, one, other, claim):
    """The ascending tuple of all residues whose powers let the claim."""
    check_claimed(prime, one, other, claim)
    check_not_great(prime)
    # A row times the powers of a residue is the row's value there, as a polynomial.
    lack = raw_lack(prime, one, other, claim)
    return tuple([
        residue for residue in range(prime)
        if all([raw_value(prime, row, residue) == 0 for row in lack])
    ])


def chain_product(prime, matrices):
    """The product of all matrices, from the left to the right."""
    check_prime(prime)
    check_matrices(prime, matrices)
    check_neighbours(matrices)
    product = matrices[0]
    for matrix in matrices[1:]:
        product = raw_matrix_product(prime, product, matrix)
    return product


def lets_chain(prime, matrices, claim, vector):
    """Whether the vector comes to the same by all matrices, the last one first, and by claim."""
    check_prime(prime)
    check_matrices(prime, matrices)
    check_matrix(prime, claim)
    check_shapes(matrices, claim)
    check_vector(prime, vector, columns_many(claim))
    return raw_lets_vector(prime, matrices, claim, vector)


def least_work(sizes):
    """The fewest multiplications for matrices of sizes[0] by sizes[1], sizes[1] by sizes[2], .."""
    last = len(sizes) - 1
    least = {}
    for width in range(1, last + 1):
        for start in range(last - width + 1):
            end = start + width
            ways = [
                least[start, at] + least[at, end] + sizes[start] * sizes[at] * sizes[end]
                for at in range(start + 1, end)
            ]
            least[start, end] = min(ways, default=0)
    return least[0, last]


def chain_work(prime, matrices):
    """How many multiplications lets_chain wants, and the fewest for the product itself."""
    check_prime(prime)
    check_matrices(prime, matrices)
    check_neighbours(matrices)
    heights = [len(matrix) for matrix in matrices]
    widths = [columns_many(matrix) for matrix in matrices]
    told = sum([height * width for height, width in zip(heights, widths)])
    return (told + heights[0] * widths[-1], least_work(heights + widths[-1:]))
