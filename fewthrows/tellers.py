"""Tellers: honest answers, lucky ones, and answers by a book."""

from fewthrows.asks import check_ask, is_step
from fewthrows.checks import are_residues, check_residue
from fewthrows.degrees import is_plain
from fewthrows.errors import BadAnswers, BadAsk, BadThrows, NotPlain
from fewthrows.meanings import Meaning
from fewthrows.polynomials import raw_scaled, raw_sum, raw_value, raw_with_noughts
from fewthrows.residues import raw_inverse
from fewthrows.rings import PolynomialRing, ResidueRing, joined
from fewthrows.talks import Talk, meaning_of


def fitted(poly, many):
    """The polynomial with so many coefficients; what is cut off are noughts."""
    return (poly + (0,) * many)[:many]


def honest_line(book, ask):
    """The function's polynomial along a line."""
    function, one, other, degree = ask[1:-1]
    prime = book.prime
    along = tuple([(start, (end - start) % prime) for start, end in zip(one, other)])
    poly = Meaning(book.reading, PolynomialRing(prime)).called(function, along)
    return fitted(poly, degree + 1)


def honest_polynomial(book, ask):
    """The polynomial of what stands behind a round's operator."""
    function, word, known, name, degree = ask[1:-1]
    names = {other: (residue,) for other, residue in known}
    names[name] = (0, 1)
    line = book.reading.functions[function]
    done = book.plan.done[ask[-1]] + 1
    poly = Meaning(book.reading, PolynomialRing(book.prime)).behind(line, done, names)
    return fitted(poly, degree + 1)


def raw_honest(book, ask):
    """The true answer to an ask of this book."""
    if ask[0] == 'line':
        return honest_line(book, ask)
    if ask[0] == 'polynomial':
        return honest_polynomial(book, ask)
    meaning = meaning_of(book)
    return tuple([meaning.called(function, point) for function, point in ask[2]])


def honest_answer(book, ask):
    """The true answer to an ask, worked out by the text, coefficient by coefficient."""
    check_ask(book, ask)
    return raw_honest(book, ask)


def lucky_noughts(prime, word, at, degree):
    """As many noughts as can be, but not at an end that counts in the check."""
    # low at 1 looks at the end 1 alone; each other check looks at the end 0.
    spared = 1 if word == 'low' and at == 1 else 0
    # One residue more than is needed, as one of them may be the spared one.
    tried = range(min(degree + 1, prime))
    noughts = [residue for residue in tried if residue != spared]
    return noughts[:degree]


def lucky_difference(book, ask, lack):
    """A polynomial whose check comes to lack, with as many noughts as can be."""
    word, known, name, degree = ask[2:-1]
    prime = book.prime
    at = dict(known).get(name, 0)
    poly = raw_with_noughts(prime, lucky_noughts(prime, word, at, degree))
    low = raw_value(prime, poly, 0)
    high = raw_value(prime, poly, 1)
    checked = joined(ResidueRing(prime), word, low, high, at)
    return raw_scaled(prime, poly, lack * raw_inverse(prime, checked) % prime)


def lucky_answer(talk):
    """An answer that passes the check, and is as often true as can be."""
    book = talk.book
    if not is_plain(book):
        raise NotPlain(book)
    ask = talk.ask
    if ask[0] != 'polynomial':
        raise BadAsk(ask)
    honest = raw_honest(book, ask)
    prime = book.prime
    at = dict(ask[3]).get(ask[4], 0)
    low = raw_value(prime, honest, 0)
    high = raw_value(prime, honest, 1)
    true_value = joined(ResidueRing(prime), ask[2], low, high, at)
    # If the claim is right, nothing lacks, and this is the honest answer.
    lack = (talk.claims[0][2] - true_value) % prime
    return raw_sum(prime, honest, lucky_difference(book, ask, lack))


def is_pair_of_answer(book, value):
    """Whether value is ((step, throws), answer)."""
    if not isinstance(value, tuple) or len(value) != 2:
        return False
    first, answer = value
    if not isinstance(first, tuple) or len(first) != 2 or not is_step(book, first[0]):
        return False
    return is_row(book, first[1]) and is_row(book, answer)


def is_row(book, value):
    """Whether value is a tuple of residues."""
    return isinstance(value, tuple) and are_residues(book.prime, value, 0, len(value))


def check_answers(book, value):
    """Raise BadAnswers unless value is an answer book of this book."""
    if not isinstance(value, tuple) or not all([is_pair_of_answer(book, part) for part in value]):
        raise BadAnswers(value)
    if len({part[0] for part in value}) < len(value):
        raise BadAnswers(value)


def check_throws(book, value, least):
    """Raise BadThrows unless value is a tuple of residues, one for each throw.

    There may be fewer of them, but least at least.
    """
    if not are_residues(book.prime, value, least, book.plan.throws):
        raise BadThrows(value)


def said_in(answers):
    """An answer book as a dict."""
    return {part[0]: part[1] for part in answers}


def teller_answer(talk, said):
    """What the teller answers to the talk's ask who goes by said, a dict."""
    place = (talk.step, talk.throws)
    if place in said:
        return said[place]
    return raw_honest(talk.book, talk.ask)


def go_further(talk, said, throws):
    """The talk hears its next answer, or is thrown its next throw."""
    if talk.ask == ('throw',):
        talk.throw(throws[len(talk.throws)])
    else:
        talk.hear(teller_answer(talk, said))


def judged(book, value, answers, throws):
    """The last ask of the talk of a teller who goes by answers, at these throws."""
    check_residue(book.prime, value)
    check_answers(book, answers)
    check_throws(book, throws, book.plan.throws)
    talk = Talk(book, value)
    said = said_in(answers)
    while talk.ask[0] != 'over':
        go_further(talk, said, throws)
    return talk.ask


def talk_of(book, value, answers, throws):
    """The talk of a teller who goes by answers, as it is right behind the last throw."""
    check_residue(book.prime, value)
    check_answers(book, answers)
    check_throws(book, throws, 0)
    talk = Talk(book, value)
    said = said_in(answers)
    while talk.ask[0] != 'over' and len(talk.throws) < len(throws):
        go_further(talk, said, throws)
    return talk
