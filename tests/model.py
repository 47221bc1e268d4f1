"""A desk in another way than the package goes: it keeps deeds alone, and does all of them again each time."""

import re

from fewthrows.books import Book
from fewthrows.errors import BadBook
from fewthrows.talks import Talk
from fewthrows.tellers import honest_answer

WORDS = {'lay': 2, 'begin': 3, 'hear': 2, 'honest': 1, 'throw': 2, 'branch': 2, 'close': 1}


def is_name(value):
    return isinstance(value, str) and re.fullmatch('[a-z]{1,8}', value) is not None


def is_residue(prime, value):
    return value.__class__ is int and 0 <= value < prime


def held(things, name):
    return isinstance(name, str) and name in things


class Model:
    def __init__(self, deeds=()):
        self.deeds = list(deeds)
        self.undone = []
        self.marks = {}

    def laid(self):
        """Books and talks by their names, all deeds done from the beginning."""
        books, talks = {}, {}
        for deed in self.deeds:
            word, name, *rest = deed
            if word == 'lay':
                books[name] = Book(rest[0])
            elif word == 'begin':
                talks[name] = Talk(books[rest[0]], rest[1])
            elif word == 'hear':
                talks[name].hear(rest[0])
            elif word == 'honest':
                talks[name].hear(honest_answer(talks[name].book, talks[name].ask))
            elif word == 'throw':
                talks[name].throw(rest[0])
            elif word == 'branch':
                talks[rest[0]] = talks[name].copy()
            else:
                del talks[name]
        return books, talks

    def error(self, deed):
        """The name and the value of the error that the deed raises; None if it can be done."""
        if not isinstance(deed, tuple) or not deed or not isinstance(deed[0], str) or len(deed) != 1 + WORDS.get(deed[0], -1):
            return 'BadDeed', deed
        books, talks = self.laid()
        error = self.table_error(deed, books, talks)
        if error is None and (
                len(self.deeds) >= 400 or deed[0] == 'lay' and len(books) >= 12 or deed[0] in ('begin', 'branch') and len(talks) >= 40):
            return 'Full', deed
        return error

    def table_error(self, deed, books, talks):
        word, name, *rest = deed
        if word in ('lay', 'begin'):
            if not is_name(name):
                return 'BadName', name
            if name in (books if word == 'lay' else talks):
                return 'Taken', name
        elif not held(talks, name):
            return 'NoTalk', name
        if word == 'lay':
            try:
                Book(rest[0])
            except BadBook as error:
                return 'BadBook', error.value
        elif word == 'begin':
            if not held(books, rest[0]):
                return 'NoBook', rest[0]
            if not is_residue(books[rest[0]].prime, rest[1]):
                return 'BadResidue', rest[1]
        elif word == 'branch':
            if not is_name(rest[0]):
                return 'BadName', rest[0]
            if rest[0] in talks:
                return 'Taken', rest[0]
        elif word != 'close':
            talk = talks[name]
            if (talk.ask == ('throw',)) != (word == 'throw') or talk.ask[0] == 'over':
                return 'OutOfTurn', talk.ask
            if word == 'throw' and not is_residue(talk.book.prime, rest[0]):
                return 'BadResidue', rest[0]
            if word == 'hear' and not (
                    isinstance(rest[0], tuple) and len(rest[0]) <= 201 and all(is_residue(talk.book.prime, part) for part in rest[0])):
                return 'BadAnswer', rest[0]
        return None

    def do(self, deed):
        self.marks = {word: number for word, number in self.marks.items() if number <= len(self.deeds)}
        self.deeds.append(deed)
        self.undone = []

    def go(self, number):
        deeds = self.deeds + self.undone
        self.deeds, self.undone = deeds[:number], deeds[number:]

    def seen(self):
        """All that a desk shows."""
        books, talks = self.laid()
        shown = {
            'deeds': tuple(self.deeds), 'undone': tuple(self.undone), 'books': tuple(sorted(books)), 'talks': tuple(sorted(talks)),
            'marks': tuple(sorted(self.marks)),
        }
        return shown, {name: book.text for name, book in books.items()}, {name: stand(talk) for name, talk in talks.items()}

    def journal(self):
        lines = ['journal'] + [self.line(deed) for deed in self.deeds]
        if self.undone:
            lines += ['undone'] + [self.line(deed) for deed in self.undone]
        return '\n'.join(lines + [f'mark {word} {self.marks[word]}' for word in sorted(self.marks)])

    def line(self, deed):
        parts = [part for part in deed]
        if deed[0] == 'hear':
            parts = parts[:2] + list(parts[2])
        return ' '.join(str(part).replace('\n', '|') for part in parts)


def stand(talk):
    """Where a talk stands."""
    return talk.book.text, talk.value, talk.step, talk.ask, talk.claims, talk.throws


def seen(desk):
    """All that a desk shows."""
    shown = {name: getattr(desk, name) for name in ('deeds', 'undone', 'books', 'talks', 'marks')}
    return shown, {name: desk.book_at(name).text for name in desk.books}, {name: stand(desk.talk_at(name)) for name in desk.talks}


TEXTS = [
    'prime 5\ntable t 1 2\nlet out = sum x : t[x]*x',
    'prime 5\ntable t 1 2 0 3\nlet f x y = sum z : t[x,z]*t[z,y]\nlet out = sum a : f[a,0]*f[a,1]+f[1,a]',
    'prime 3\ntable t 1 2\nlet f x = : x^2+t[x]\nlet out = all a : f[a]',
    'prime 1000003\ntable t 1 2 3 1000002\nlet out = sum x sum y : t[x,y]*t[y,x]',
    'prime 7\nlet out = : 3',
]


def some_deed(source, model):
    """A deed that can be done most times."""
    books, talks = model.laid()
    names = ['a', 'b', 'k', 'm', 'undone', 'mark', 'lay', 'x']
    word = source.choice(['lay', 'begin', 'branch', 'close'] + ['hear', 'honest', 'throw'] * 5)
    name = source.choice(sorted(talks)) if talks and word not in ('lay', 'begin') and source.random() < 0.95 else source.choice(names)
    talk = talks.get(name)
    prime = talk.book.prime if talk else 5
    if talk and word in ('hear', 'honest', 'throw') and source.random() < 0.8:
        word = 'throw' if talk.ask == ('throw',) else source.choice(('honest', 'honest', 'hear')) if talk.ask[0] != 'over' else 'close'
    if word == 'lay':
        return word, name, source.choice(TEXTS)
    if word == 'begin':
        book = source.choice(sorted(books) or ['b'])
        return word, name, book, source.randrange(3)
    if word == 'hear':
        if talk and talk.ask[0] in ('line', 'polynomial', 'values') and source.random() < 0.5:
            return word, name, honest_answer(talk.book, talk.ask)
        return word, name, tuple(source.randrange(prime) for _ in range(source.choice((0, 1, 2, 3, 201, 202))))
    if word == 'throw':
        return word, name, source.randrange(prime)
    if word == 'branch':
        return word, name, source.choice(names)
    return word, name
