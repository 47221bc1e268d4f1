"""Deeds: what each of them makes of the books and talks that lie on a desk."""

from fewthrows.books import Book
from fewthrows.checks import are_residues
from fewthrows.errors import BadAnswer, BadName, NoBook, NoTalk, OutOfTurn, Taken
from fewthrows.talks import WAITING, Talk
from fewthrows.tellers import raw_honest
from fewthrows.texts import is_name

MOST_TOLD = 201


class Stand:
    """The books and the talks of a desk at one time, under their names; they never change."""

    def __init__(self, books, talks):
        self.books = books
        self.talks = talks


def with_talk(stand, name, talk):
    """The stand with this talk under the name."""
    return Stand(stand.books, {**stand.talks, name: talk})


def check_name(value):
    """Raise BadName unless value is a name."""
    if not is_name(value):
        raise BadName(value)


def check_free(name, things):
    """Raise BadName unless name is a name, Taken if one of the things has it."""
    check_name(name)
    if name in things:
        raise Taken(name)


def book_of(stand, name):
    """The book under the name."""
    if not isinstance(name, str) or name not in stand.books:
        raise NoBook(name)
    return stand.books[name]


def copy_of(stand, name):
    """A talk that stands where that under the name stands, and goes on by itself."""
    if not isinstance(name, str) or name not in stand.talks:
        raise NoTalk(name)
    return stand.talks[name].copy()


def waiting_copy(stand, name):
    """The same; it has to wait for an answer."""
    talk = copy_of(stand, name)
    if talk.ask[0] not in WAITING:
        raise OutOfTurn(talk.ask)
    return talk


def behind_lay(stand, name, text):
    """The stand behind laying a book."""
    check_free(name, stand.books)
    return Stand({**stand.books, name: Book(text)}, stand.talks)


def behind_begin(stand, name, book, value):
    """The stand behind the beginning of a talk."""
    check_free(name, stand.talks)
    return with_talk(stand, name, Talk(book_of(stand, book), value))


def behind_hear(stand, name, answer):
    """The stand behind an answer."""
    talk = waiting_copy(stand, name)
    if not are_residues(talk.book.prime, answer, 0, MOST_TOLD):
        raise BadAnswer(answer)
    talk.hear(answer)
    return with_talk(stand, name, talk)


def behind_honest(stand, name):
    """The stand behind the honest answer."""
    talk = waiting_copy(stand, name)
    talk.hear(raw_honest(talk.book, talk.ask))
    return with_talk(stand, name, talk)


def behind_throw(stand, name, residue):
    """The stand behind a throw."""
    talk = copy_of(stand, name)
    talk.throw(residue)
    return with_talk(stand, name, talk)


def behind_branch(stand, name, other):
    """The stand behind the branching of a talk."""
    talk = copy_of(stand, name)
    check_free(other, stand.talks)
    return with_talk(stand, other, talk)


def behind_close(stand, name):
    """The stand behind the closing of a talk."""
    copy_of(stand, name)
    return Stand(stand.books, {word: talk for word, talk in stand.talks.items() if word != name})


# How many parts each deed has behind its word, and what it does.
PARTS = {'lay': 2, 'begin': 3, 'hear': 2, 'honest': 1, 'throw': 2, 'branch': 2, 'close': 1}
ACTIONS = {
    'lay': behind_lay,
    'begin': behind_begin,
    'hear': behind_hear,
    'honest': behind_honest,
    'throw': behind_throw,
    'branch': behind_branch,
    'close': behind_close,
}


def is_deed(value):
    """Whether value is a tuple of a deed's word and as many parts as it has."""
    if not isinstance(value, tuple) or len(value) < 1 or not isinstance(value[0], str):
        return False
    return value[0] in PARTS and len(value) == 1 + PARTS[value[0]]


def stand_behind(stand, deed):
    """The stand behind a deed, unless it raises."""
    action = ACTIONS[deed[0]]
    parts = deed[1:]
    return action(stand, *parts)
