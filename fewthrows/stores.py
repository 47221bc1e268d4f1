"""Stores that somebody else keeps, who may lie: what is told is checked by two piles of triples.

A triple is (place, value, moment). Functions whose names begin with raw_ take what is
already known to be right.
"""

from fewthrows.checks import check_between, check_prime, check_residue, is_integer, is_prime
from fewthrows.errors import BadAnswers, BadJob, BadPrime, BadValues, TooMany
from fewthrows.lists import raw_folded_rows, raw_pile_value, raw_throws_letting
from fewthrows.residues import raw_inverse

MOST_PLACES = 16
MOST_DEEDS = 60
GREATEST_VALUE = 1000002
GREATEST_TO_TRY = 101


def is_store_value(value):
    """Whether value is an integer that can lie in a store."""
    return is_integer(value) and 0 <= value <= GREATEST_VALUE


def check_values(value):
    """Raise BadValues unless value are first values."""
    if not isinstance(value, tuple) or not 1 <= len(value) <= MOST_PLACES:
        raise BadValues(value)
    if not all([is_store_value(part) for part in value]):
        raise BadValues(value)


def is_deed(value, places):
    """Whether value is a deed of a store with so many places."""
    if not isinstance(value, tuple) or not 2 <= len(value) <= 3:
        return False
    if not is_integer(value[1]) or not 0 <= value[1] < places:
        return False
    if len(value) == 2:
        return value[0] == 'read'
    return value[0] == 'put' and is_store_value(value[2])


def check_job(value, places):
    """Raise BadJob unless value is a job of a store with so many places."""
    if not isinstance(value, tuple) or len(value) > MOST_DEEDS:
        raise BadJob(value)
    if not all([is_deed(part, places) for part in value]):
        raise BadJob(value)


def is_pair(value):
    """Whether value is a tuple of two integers from 0 on."""
    if not isinstance(value, tuple) or len(value) != 2:
        return False
    return all([is_integer(part) and part >= 0 for part in value])


def are_pairs(value, many):
    """Whether value is a tuple of so many pairs."""
    return isinstance(value, tuple) and len(value) == many and all([is_pair(part) for part in value])


def check_told(values, job, answers):
    """Raise BadValues, BadJob or BadAnswers unless answers are answers for a store's job."""
    check_values(values)
    check_job(job, len(values))
    if not isinstance(answers, tuple) or len(answers) != 2:
        raise BadAnswers(answers)
    if not are_pairs(answers[0], len(job)) or not are_pairs(answers[1], len(values)):
        raise BadAnswers(answers)


def check_store_prime(prime, values, job):
    """Raise BadPrime unless prime is a prime that is great enough for the store and the job."""
    put = [deed[2] for deed in job if deed[0] == 'put']
    greatest = max([len(values) - 1, len(job)] + list(values) + put)
    if not is_prime(prime) or prime <= greatest:
        raise BadPrime(prime)


def put_back(deed, pair):
    """The value that lies at the deed's place behind it, this pair being told."""
    return pair[0] if deed[0] == 'read' else deed[2]


def raw_done(store, number, deed):
    """The right pair of the deed with this number; store, a pair for each place, is led on."""
    place = deed[1]
    pair = store[place]
    store[place] = (put_back(deed, pair), number)
    return pair


def first_store(values):
    """The list of the pairs that lie in a store at first."""
    return [(value, 0) for value in values]


def raw_plain_answers(values, job):
    """The right answers."""
    store = first_store(values)
    told = []
    for number, deed in enumerate(job, start=1):
        told.append(raw_done(store, number, deed))
    return (tuple(told), tuple(store))


def first_unlike(one, other):
    """The number, from 0, of the first part in which both are unlike; None if there is none."""
    unlike = [at for at, (left, right) in enumerate(zip(one, other)) if left != right]
    return unlike[0] if len(unlike) > 0 else None


def piles_of(values, job, answers):
    """The triples that are put and those that are taken."""
    put = [(place, value, 0) for place, value in enumerate(values)]
    taken = [(place, value, moment) for place, (value, moment) in enumerate(answers[1])]
    for number, (deed, pair) in enumerate(zip(job, answers[0]), start=1):
        put.append((deed[1], put_back(deed, pair), number))
        taken.append((deed[1], pair[0], pair[1]))
    return put, taken


def first_late(told, bound):
    """The number of the first deed at which the keeper is late; 0 if there is none.

    A value from bound on is late, too; where bound is None, none is.
    """
    for number, (value, moment) in enumerate(told, start=1):
        if moment >= number or (bound is not None and value >= bound):
            return number
    return 0


def least_unlike(put, taken):
    """The least triple that does not stand as often in one pile as in the other; None if all do."""
    surplus = {}
    for triple in put:
        surplus[triple] = surplus.get(triple, 0) + 1
    for triple in taken:
        surplus[triple] = surplus.get(triple, 0) - 1
    return min([triple for triple, many in surplus.items() if many != 0], default=None)


def raw_tallies(values, job, answers):
    """What the checker finds who compares the piles themselves."""
    late = first_late(answers[0], None)
    if late > 0:
        return ('late', late)
    put, taken = piles_of(values, job, answers)
    unlike = least_unlike(put, taken)
    return ('let',) if unlike is None else ('unlike', unlike)


def late_by_prime(prime, job, answers):
    """Where the keeper is late for a checker with two cells; None if it is not."""
    late = first_late(answers[0], prime)
    if late > 0:
        return ('late', late)
    for place, (value, moment) in enumerate(answers[1]):
        if value >= prime or moment > len(job):
            return ('late last', place)
    return None


def raw_cell(prime, pile, y, z):
    """What a cell keeps of the pile: a triple is folded at y to its code."""
    return raw_pile_value(prime, raw_folded_rows(prime, pile, y), z)


def raw_cells_told(prime, values, job, answers, y, z):
    """What the checker finds who keeps two cells."""
    late = late_by_prime(prime, job, answers)
    if late is not None:
        return late
    put, taken = [raw_cell(prime, pile, y, z) for pile in piles_of(values, job, answers)]
    return ('let',) if put == taken else ('unequal', put, taken)


def plain_answers(values, job):
    """The right answers."""
    check_values(values)
    check_job(job, len(values))
    return raw_plain_answers(values, job)


def first_wrong(values, job, answers):
    """The first deed, or else the least place in last, of which another pair is told; None if none."""
    check_told(values, job, answers)
    right = raw_plain_answers(values, job)
    deed = first_unlike(right[0], answers[0])
    if deed is not None:
        return ('deed', deed + 1)
    place = first_unlike(right[1], answers[1])
    return None if place is None else ('last', place)


def tallies(values, job, answers):
    """What the checker finds who compares the piles themselves."""
    check_told(values, job, answers)
    return raw_tallies(values, job, answers)


def cells_told(prime, values, job, answers, y, z):
    """What the checker finds who keeps two cells, with the throws y and z."""
    check_told(values, job, answers)
    check_store_prime(prime, values, job)
    check_residue(prime, y)
    check_residue(prime, z)
    return raw_cells_told(prime, values, job, answers, y, z)


def store_rows_let(prime, values, job, answers):
    """How many of all pairs (y, z) let the answers."""
    check_told(values, job, answers)
    check_store_prime(prime, values, job)
    if prime > GREATEST_TO_TRY:
        raise TooMany(GREATEST_TO_TRY)
    if late_by_prime(prime, job, answers) is not None:
        return 0
    put, taken = piles_of(values, job, answers)
    return raw_throws_letting(prime, put, taken)


def store_bound(prime, many):
    """How many pairs (y, z) at most let wrong answers for so many places and deeds."""
    check_prime(prime)
    check_between(many, 1, MOST_PLACES + MOST_DEEDS)
    folds = min(2 * many, prime)
    values = min(many - 1, prime)
    return folds * prime + (prime - folds) * values


def burnt_codes(prime, one, other, z):
    """Two other codes for those of two triples, with the same product at z."""
    if one != other:
        return other, one
    lack = (z - one) % prime
    if lack == 0:
        return one, (one + 1) % prime
    return (z - 2 * lack) % prime, (z - lack * raw_inverse(prime, 2)) % prime


def value_of_code(prime, code, place, moment, y):
    """The value with which a triple of this place and moment has the code; y is not 0."""
    return (code - place - moment * y * y) * raw_inverse(prime, y) % prime


def raw_burnt_answers(prime, values, job, y, z):
    """Answers that are not the right ones and are let at y, which is not 0, and z."""
    told, last = raw_plain_answers(values, job)
    moments = [last[0][1], last[1][1]]
    triples = [(place, last[place][0], moments[place]) for place in (0, 1)]
    codes = raw_folded_rows(prime, triples, y)
    burnt = [
        (value_of_code(prime, code, place, moments[place], y), moments[place])
        for place, code in enumerate(burnt_codes(prime, codes[0], codes[1], z))
    ]
    return (told, tuple(burnt) + last[2:])


def burnt_answers(prime, values, job, y, z):
    """Wrong answers of a keeper who knows y and z, unlike the right ones at the places 0 and 1.

    None if y is 0, or if there is one place alone.
    """
    check_values(values)
    check_job(job, len(values))
    check_store_prime(prime, values, job)
    check_residue(prime, y)
    check_residue(prime, z)
    if y == 0 or len(values) == 1:
        return None
    return raw_burnt_answers(prime, values, job, y, z)
