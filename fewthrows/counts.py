"""Counts: rows of throws gone through one by one, and shares of rows."""

from fewthrows.checks import check_residue, is_integer
from fewthrows.degrees import raw_rows_many
from fewthrows.errors import BadNumber, BadShare, TooMany
from fewthrows.polynomials import raw_value
from fewthrows.powers import power_of
from fewthrows.talks import Talk, is_right
from fewthrows.tellers import check_answers, check_throws, raw_honest, said_in, teller_answer

MOST_ROWS = 3000
MOST_TALKS = 40
MOST_REPEATS = 1000


def check_rows_many(book, most):
    """Raise TooMany if there are more rows of throws."""
    if raw_rows_many(book) > most:
        raise TooMany(most)


def rows_letting(talk, said):
    """All rows that begin with the talk's throws and let its value; said tells the answers."""
    while talk.ask[0] != 'over' and talk.ask != ('throw',):
        talk.hear(teller_answer(talk, said))
    if talk.ask == ('over', 'let'):
        return [talk.throws]
    if talk.ask[0] == 'over':
        return []
    rows = []
    for residue in range(talk.book.prime):
        branch = talk.copy()
        branch.throw(residue)
        rows.extend(rows_letting(branch, said))
    return rows


def passing_rows(book, value, answers):
    """The ascending tuple of all rows of throws that let the value against the answer book."""
    check_residue(book.prime, value)
    check_answers(book, answers)
    check_rows_many(book, MOST_ROWS)
    return tuple(rows_letting(Talk(book, value), said_in(answers)))


def passes(book, value, answers):
    """How many rows of throws let the value against the answer book."""
    return len(passing_rows(book, value, answers))


def is_lucky(talk, asked, residue):
    """Whether this throw, that the talk waits for behind what was asked, makes a wrong claim right."""
    used = 2 if asked[0] == 'line' else 1
    if all([is_right(talk, claim) for claim in talk.claims[:used]]):
        return False
    prime = talk.book.prime
    # What the true polynomial has here is what the claim says that the throw makes.
    honest = raw_honest(talk.book, asked)
    return raw_value(prime, honest, residue) == raw_value(prime, talk.heard, residue)


def lucky_throws(book, value, answers, throws):
    """The ascending tuple of the numbers of all lucky throws of a row that the talk comes to."""
    check_residue(book.prime, value)
    check_answers(book, answers)
    check_throws(book, throws, book.plan.throws)
    talk = Talk(book, value)
    said = said_in(answers)
    asked = talk.ask
    lucky = []
    while talk.ask[0] != 'over':
        if talk.ask == ('throw',):
            at = len(talk.throws)
            if is_lucky(talk, asked, throws[at]):
                lucky.append(at)
            talk.throw(throws[at])
        else:
            asked = talk.ask
            talk.hear(teller_answer(talk, said))
    return tuple(lucky)


def check_share(value):
    """Raise BadShare unless value is a share."""
    if not isinstance(value, tuple) or len(value) != 2 or not all([is_integer(part) for part in value]):
        raise BadShare(value)
    if not 0 <= value[0] <= value[1] or value[1] < 1:
        raise BadShare(value)


def is_at_most(one, other):
    """Whether let / rows of one is at most that of other."""
    return one[0] * other[1] <= other[0] * one[1]


def both_let(one, other):
    """The share of two talks, with throws of their own, that both have to let."""
    return (one[0] * other[0], one[1] * other[1])


def repeated_share(share, many):
    """The share of many talks about one value that all have to let it."""
    check_share(share)
    if not is_integer(many) or not 1 <= many <= MOST_TALKS:
        raise BadNumber(many)
    return (power_of(share[0], many), power_of(share[1], many))


def led_share(one, other):
    """The share of two talks behind one another, each of which may let a wrong claim."""
    check_share(one)
    check_share(other)
    rows = one[1] * other[1]
    return (rows - (one[1] - one[0]) * (other[1] - other[0]), rows)


def greater_share(one, other):
    """The share with the greater let / rows; one if they are alike."""
    check_share(one)
    check_share(other)
    return one if is_at_most(other, one) else other


def doubled_shares(share, bound):
    """(1, share), and likewise for 2, 4, 8, .. talks as long as theirs is above bound, too."""
    doubled = [(1, share)]
    while 2 * doubled[-1][0] <= MOST_REPEATS:
        many, last = doubled[-1]
        further = both_let(last, last)
        if is_at_most(further, bound):
            return doubled
        doubled.append((2 * many, further))
    return doubled


def most_above(share, bound):
    """The greatest number of talks whose share is above bound, where that of one talk is.

    Of numbers too great to be asked for, any such one.
    """
    above = 0
    reached = (1, 1)
    for many, power in reversed(doubled_shares(share, bound)):
        further = both_let(reached, power)
        if not is_at_most(further, bound):
            above += many
            reached = further
    return above


def repeats_for(share, bound):
    """The least number of talks for which the repeated share is at most bound; 0 if there is none."""
    check_share(share)
    check_share(bound)
    if is_at_most(share, bound):
        return 1
    # A share of all rows stays as it is; no other one but 0 comes down to 0.
    if share[0] == share[1] or bound[0] == 0:
        return 0
    many = most_above(share, bound) + 1
    if many > MOST_REPEATS:
        raise TooMany(MOST_REPEATS)
    return many
