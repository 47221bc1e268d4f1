"""Streams of changes (points 16 and 3)."""

import itertools
import unittest

from fewthrows.books import Book, result_of, value_of
from fewthrows.degrees import round_degrees, throws_many
from fewthrows.errors import BadChange, BadResidue, BadThrows, BadWatch, NoWatch, OutOfTurn, Spent
from fewthrows.streams import KeptTalk, Watch, changed_book, knowing_answers, shows_knowing
from fewthrows.talks import Talk
from fewthrows.tellers import honest_answer, judged
from tests.support import DEEP, NO_NAMES, NO_NUMBERS, TriedCases, Wrong, numbers, residues, said_by

TEXT = 'prime 5\ntable t 1 2 0 3\ntable u 4 1\nlet f a = : a\nlet out = sum x sum y : t[x,y]*u[y]^2+t[y,x]*t[x,y]-x'
BOOK = Book(TEXT)
PRIMES = (3, 5, 101, 1000003)
NO_ROWS = NO_NUMBERS + [0, 1, (1,), (1, 2, 3), (1, 5), (5, 1), (1, -1), [1, 2], (1, True), (1, None), ((1, 2),), (1, 2.0), BOOK]
NO_RESIDUES = NO_NUMBERS + [5, 6, BOOK, (0,)]
NO_TABLES = [name for name in NO_NAMES] + ['v', 'f', 'out', 'x', 'T', BOOK]
NO_PLACES = [value for value in NO_NUMBERS] + [
    0, 1, (0,), (0, 1, 0), (0, 2), (2, 0), (-1, 0), (True, 0), (0, False), [0, 1], (0, None), ((0, 1),), '01', (0, 1.0), BOOK,
]
# Any integer can be added, however great and also below nought.
NO_STEPS = [value for value in NO_NUMBERS if not isinstance(value, int) or isinstance(value, bool)] + [(1,), BOOK]
# () is a row of no changes.
NO_CHANGES = [value for value in NO_NUMBERS if not isinstance(value, tuple)] + [0, [('t', (0, 1), 3)], {'t': 3}, BOOK]
NO_BOOKS = [
    'prime 5\ntable t 1 2\nlet out = all x : t[x]',
    'prime 5\ntable t 1 2\nlet out = some x : t[x]',
    'prime 5\ntable t 1 2\nlet out = sum x low x : t[x]',
    'prime 5\ntable t 1 2\nlet out = sum x all y : t[x]',
    'prime 5\ntable t 1 2\nlet out = sum x : t[1]',
    'prime 5\ntable t 1 2 3 4\nlet out = sum x : t[x,x]+t[x,0]',
    'prime 5\ntable t 1 2\nlet out = : t[0]',
    'prime 5\ntable t 1 2\nlet f x = : t[x]\nlet out = sum x : f[x]',
    'prime 5\nlet f x = : x\nlet out = : f[1]',
    'prime 5\ntable t 1 2\nlet f x = : x\nlet out = sum x : t[x]*f[x]',
]
CASES = [
    Wrong(Watch, {'book': BOOK, 'throws': (2, 3)}, {'throws': (BadThrows, NO_ROWS)}),
    Wrong(knowing_answers, {'book': BOOK, 'value': 2, 'throws': (2, 3)}, {'value': (BadResidue, NO_RESIDUES), 'throws': (BadThrows, NO_ROWS)}),
    Wrong(shows_knowing, {'book': BOOK, 'value': 2, 'throws': (2, 3), 'answers': ()},
          {'value': (BadResidue, NO_RESIDUES), 'throws': (BadThrows, NO_ROWS)}),
]


def some_text(source, prime):
    """The text of a book that can be watched."""
    names = ['x', 'y', 'z', 't'][:source.randint(1, 3)]
    lines = [f'prime {prime}']
    tables = {}
    for table in ('t', 'u', 'v')[:source.randint(1, 3)]:
        tables[table] = source.randint(1, 3)
        lines.append(' '.join(['table', table] + [str(source.randrange(prime)) for _ in range(2 ** tables[table])]))
    if source.random() < 0.3:
        lines.insert(2, 'let f a b = all c : t[' + ','.join(source.choice('abc') for _ in range(tables['t'])) + ']')
    def factor():
        if source.random() < 0.25:
            return source.choice(names + ['2'])
        table = source.choice(list(tables))
        call = table + '[' + ','.join(source.choice(names) for _ in range(tables[table])) + ']'
        return call + source.choice(('', '', '', '^2', '^3'))
    body = ''
    for _ in range(source.randint(1, 3)):
        body += (source.choice('+-') if body else '') + '*'.join(factor() for _ in range(source.randint(1, 2)))
    return '\n'.join(lines + ['let out = ' + ' '.join('sum ' + name for name in names) + ' : ' + body])


def some_changes(source, book, many):
    changes = []
    for _ in range(many):
        name, table = source.choice(book.tables)
        place = tuple(source.randrange(2) for _ in range(len(table).bit_length() - 1))
        by = source.choice((source.randrange(-9, 10), source.randrange(-10 ** 12, 10 ** 12), 10 ** 299, book.prime, 0))
        changes.append((name, place, by))
        if source.random() < 0.2:
            changes.append(changes[-1])
    return tuple(changes)


def books(seeds):
    for seed in seeds:
        source = numbers(seed)
        book = Book(some_text(source, source.choice(PRIMES)))
        yield source, book, residues(source, book.prime, throws_many(book))


def watched(book, throws, changes):
    watch = Watch(book, throws)
    for table, place, by in changes:
        watch.change(table, place, by)
    return watch


def cells_by_rule(book, throws):
    """What the cells of a book are whose tables nobody changes any more."""
    _, _, operators, body = book.functions[-1]
    at = dict(zip([name for _, name in operators], throws))
    cells = []
    for table, _ in book.tables:
        start = -1
        while (start := body.find(table + '[', start + 1)) >= 0:
            names = tuple(body[start + 2:body.index(']', start)].split(','))
            cells.append((start, (table, names, value_of(book, table, tuple(at[name] for name in names)))))
    return tuple(dict.fromkeys(cell for _, cell in sorted(cells)))


class Arguments(TriedCases, unittest.TestCase):
    cases = CASES

    def test_more_by_name(self):
        self.assertEqual(Watch(BOOK, (2, 3)).cells, Watch(throws=(2, 3), book=BOOK).cells)
        self.assertEqual(changed_book(changes=(('t', (0, 1), 3),), book=BOOK), changed_book(BOOK, (('t', (0, 1), 3),)))
        one, other = Watch(BOOK, (2, 3)), Watch(BOOK, (2, 3))
        one.change('t', (0, 1), 3)
        other.change(by=3, place=(0, 1), table='t')
        self.assertEqual(one.cells, other.cells)
        self.assertEqual(one.joined(other=other).cells, other.joined(one).cells)
        kept = one.talk(value=2)
        kept.hear(answer=())
        self.assertEqual(kept.ask, ('over', 'refused', 0))

    def test_books_that_cannot_be_watched(self):
        for text in NO_BOOKS:
            book = Book(text)
            for function, more in ((Watch, {'throws': None}), (knowing_answers, {'value': 9, 'throws': None}),
                                   (shows_knowing, {'value': 9, 'throws': None, 'answers': None})):
                raised = said_by(self, function, {'book': book, **more})
                self.assertIs(raised.__class__, NoWatch)
                self.assertIs(raised.value, book)
            changed_book(book, ())

    def test_books_that_can(self):
        for text, cells in [
                ('prime 5\nlet out = : 3', ()),
                ('prime 5\ntable t 1 2\nlet f x = all y : t[0]+x*y\nlet out = sum x : 2*x', ()),
                ('prime 5\ntable t 1 2\ntable u 1 2 3 4\nlet out = sum x sum t : t[t]*u[x,t]+u[t,x]*t[t]-u[x,t]',
                 (('t', ('t',), 4), ('u', ('x', 't'), 3), ('u', ('t', 'x'), 4)))]:
            book = Book(text)
            watch = Watch(book, (2, 3)[:throws_many(book)])
            self.assertEqual(watch.cells, cells)

    def test_changes_that_are_none(self):
        for value in NO_CHANGES:
            raised = said_by(self, changed_book, {'book': BOOK, 'changes': value})
            self.assertEqual((raised.__class__, raised.value, raised.value.__class__), (BadChange, -1, int))
        good = ('t', (0, 1), 3)
        wrong = [(table, (0, 1), 3) for table in NO_TABLES] + [('t', place, 3) for place in NO_PLACES] + [('t', (0, 1), by) for by in NO_STEPS]
        wrong += [('u', (0, 1), 3), ('t', (0,), 3)]
        for value in wrong + NO_NUMBERS + [good[:2], good + (3,), list(good), (good,), 't', 0]:
            for ahead in (0, 1, 4):
                raised = said_by(self, changed_book, {'book': BOOK, 'changes': (good,) * ahead + (value, None)})
                self.assertEqual((raised.__class__, raised.value, raised.value.__class__), (BadChange, ahead, int))
        watch = Watch(BOOK, (2, 3))
        before = watch.cells
        for table, place, by in wrong:
            raised = said_by(self, watch.change, {'table': table, 'place': place, 'by': by})
            self.assertEqual((raised.__class__, raised.value, raised.value.__class__), (BadChange, 0, int))
            self.assertEqual((watch.cells, watch.spent), (before, False))

    def test_watches_that_are_none(self):
        watch = Watch(BOOK, (2, 3))
        others = [Watch(BOOK, (2, 4)), Watch(BOOK, (3, 2)), Watch(changed_book(BOOK, (('u', (0,), 1),)), (2, 3)), Watch(Book(TEXT + '+0'), (2, 3))]
        for value in NO_NUMBERS + [0, 1, BOOK, watch.cells, Talk(BOOK, 1), Watch(BOOK, (2, 3)).talk(1), DEEP] + others:
            raised = said_by(self, watch.joined, {'other': value})
            self.assertIs(raised.__class__, BadWatch)
            self.assertIs(raised.value, value)
        # An equal book will do, it need not be the same.
        self.assertEqual(watch.joined(Watch(Book(TEXT), (2, 3))).cells, watch.cells)

    def test_values_that_are_none(self):
        watch = Watch(BOOK, (2, 3))
        for value in NO_RESIDUES:
            raised = said_by(self, watch.talk, {'value': value})
            self.assertIs(raised.__class__, BadResidue)
            self.assertIs(raised.value, value)
            self.assertIs(watch.spent, False)
        self.assertIsInstance(watch.talk(4), KeptTalk)
        self.assertIs(watch.spent, True)

    def test_spent(self):
        watch, other, unlike = Watch(BOOK, (2, 3)), Watch(BOOK, (2, 3)), Watch(BOOK, (1, 1))
        watch.change('t', (1, 1), 3)
        unlike.change('t', (1, 1), 2)
        watch.talk(1)
        unlike.talk(1)
        cells = watch.cells
        for function, arguments in (
                (watch.change, {'table': 't', 'place': (1, 1), 'by': 3}), (watch.change, {'table': None, 'place': 7, 'by': ()}),
                (watch.joined, {'other': other}), (watch.joined, {'other': None}), (watch.joined, {'other': watch}), (watch.joined, {'other': unlike}),
                (watch.talk, {'value': 1}), (watch.talk, {'value': None}), (other.joined, {'other': watch})):
            raised = said_by(self, function, arguments)
            self.assertEqual((raised.__class__, raised.value), (Spent, cells))
        # Spent comes ahead of BadWatch, also for the other one.
        self.assertEqual(said_by(self, other.joined, {'other': unlike}).value, unlike.cells)
        self.assertEqual((watch.cells, watch.spent, other.spent), (cells, True, False))


class Changes(unittest.TestCase):
    def test_books(self):
        for source, book, throws in books(range(80)):
            changes = some_changes(source, book, source.randint(0, 6))
            tables = {name: list(table) for name, table in book.tables}
            for name, place, by in changes:
                at = int(''.join(map(str, place)), 2)
                tables[name][at] = (tables[name][at] + by) % book.prime
            found = changed_book(book, changes)
            self.assertEqual(found.tables, tuple((name, tuple(table)) for name, table in tables.items()))
            lines = book.text.split('\n')
            self.assertEqual(found.text, '\n'.join(
                ' '.join(line.split(' ')[:2] + list(map(str, tables[line.split(' ')[1]]))) if line.startswith('table ') else line for line in lines))
            self.assertEqual(found.functions, book.functions)
            self.assertEqual(changed_book(changed_book(book, changes[:2]), changes[2:]), found)
            self.assertEqual(changed_book(found, tuple((name, place, -by) for name, place, by in changes)), book)
        self.assertEqual(changed_book(BOOK, ()), BOOK)

    def test_of_books_that_cannot_be_watched(self):
        book = Book('prime 7\ntable t 1 2\nlet f x = all y : t[x]*y\ntable u 0 6\nlet out = some x : f[x]+u[0]')
        self.assertEqual(changed_book(book, (('u', (1,), 3), ('t', (0,), -4), ('u', (1,), 10 ** 20))).tables, (
            ('t', (4, 2)), ('u', (0, (9 + 10 ** 20) % 7))))

    def test_cells(self):
        for source, book, throws in books(range(150)):
            changes = some_changes(source, book, source.randint(0, 8))
            watch = Watch(book, throws)
            self.assertEqual((watch.book, watch.spent, watch.cells), (book, False, cells_by_rule(book, throws)))
            for at, change in enumerate(changes):
                self.assertIsNone(watch.change(*change))
                self.assertEqual(watch.cells, cells_by_rule(changed_book(book, changes[:at + 1]), throws))
            mixed = list(changes)
            source.shuffle(mixed)
            self.assertEqual(watched(book, throws, mixed).cells, watch.cells)

    def test_attributes(self):
        watch = Watch(BOOK, (2, 3))
        kept = watch.talk(1)
        for made, names in ((watch, 'book cells spent'), (kept, 'ask told')):
            for name in names.split():
                self.assertIn(name, vars(made))
        # No watch keeps a table of its own.
        self.assertEqual(sorted(vars(watch)), ['book', 'cells', 'spent', 'throws'])

    def test_joined(self):
        for source, book, throws in books(range(80)):
            changes = some_changes(source, book, 6)
            parts = [watched(book, throws, changes[at:at + 2]) for at in (0, 2, 4)]
            before = [part.cells for part in parts]
            whole = watched(book, throws, changes[:6]).cells
            for order in itertools.permutations(parts):
                self.assertEqual(order[0].joined(order[1]).joined(order[2]).cells, whole)
                self.assertEqual(order[0].joined(order[1].joined(order[2])).cells, whole)
            twice = parts[0].joined(parts[0])
            self.assertEqual(twice.cells, watched(book, throws, changes[:2] * 2).cells)
            self.assertEqual(twice.joined(twice.joined(parts[1])).cells, watched(book, throws, changes[:2] * 4 + changes[2:4]).cells)
            self.assertEqual([part.cells for part in parts], before)
            self.assertEqual([part.spent for part in parts], [False] * 3)
            empty = Watch(book, throws)
            self.assertEqual(empty.joined(parts[1]).cells, parts[1].cells)

    def test_joined_goes_its_own_way(self):
        one, other = Watch(BOOK, (2, 3)), Watch(BOOK, (2, 3))
        both = one.joined(other)
        one.change('t', (0, 0), 1)
        one.talk(0)
        self.assertEqual(both.cells, other.cells)
        both.change('t', (1, 1), 1)
        self.assertEqual(other.cells, Watch(BOOK, (2, 3)).cells)
        self.assertIsInstance(both.talk(2), KeptTalk)


class KeptTalks(unittest.TestCase):
    def answer(self, source, ask, claim, honest, prime):
        """Honest answers, lies that keep the check, lies that do not, and answers of another length."""
        way = source.random()
        if way < 0.5:
            return honest
        rest = residues(source, prime, len(honest) - 1)
        half = (prime + 1) // 2
        if way < 0.9:
            return ((claim - sum(rest)) * half % prime,) + rest
        return source.choice((residues(source, prime, len(honest)), honest + (0,), honest[:-1], list(honest), None, (True,) * len(honest), (prime,) * len(honest)))

    def test_as_a_talk_of_the_changed_book(self):
        ends = {'let': 0, 'refused': 0}
        lies = 0
        for source, book, throws in books(range(300)):
            changes = some_changes(source, book, source.randint(0, 5))
            changed = changed_book(book, changes)
            value = result_of(changed) if source.random() < 0.7 else source.randrange(book.prime)
            kept = watched(book, throws, changes).talk(value)
            talk = Talk(changed, value)
            self.assertEqual((kept.ask, kept.told), (talk.ask, ()))
            while talk.ask[0] != 'over':
                claim = talk.claims[0][2]
                honest = honest_answer(changed, talk.ask)
                answer = self.answer(source, talk.ask, claim, honest, book.prime)
                lies += answer != honest
                talk.hear(answer)
                if talk.ask == ('throw',):
                    talk.throw(throws[len(talk.throws)])
                self.assertIsNone(kept.hear(answer))
                self.assertEqual((kept.ask, kept.told), (talk.ask, talk.throws))
            ends[talk.ask[1]] += 1
            for value in (honest, None, ()):
                raised = said_by(self, kept.hear, {'answer': value})
                self.assertEqual((raised.__class__, raised.value), (OutOfTurn, kept.ask))
                self.assertEqual((kept.ask, kept.told), (talk.ask, talk.throws))
        self.assertGreater(min(ends.values()), 50)
        self.assertGreater(lies, 100)

    def test_honest_is_let(self):
        for source, book, throws in books(range(60)):
            changes = some_changes(source, book, 4)
            changed = changed_book(book, changes)
            kept = watched(book, throws, changes).talk(result_of(changed))
            while kept.ask[0] == 'polynomial':
                kept.hear(honest_answer(changed, kept.ask))
            self.assertEqual((kept.ask, kept.told), (('over', 'let'), throws))

    def test_the_unchanged_book_is_not_meant(self):
        book = Book('prime 101\ntable t 1 2\nlet out = sum x : t[x]')
        watch = Watch(book, (7,))
        watch.change('t', (1,), 5)
        kept = watch.talk(3)
        kept.hear(honest_answer(book, kept.ask))
        self.assertEqual(kept.ask, ('over', 'refused', 1))

    def test_without_rounds(self):
        book = Book('prime 5\ntable t 1 2\nlet out = : 3')
        self.assertEqual(Watch(book, ()).talk(3).ask, ('over', 'let'))
        self.assertEqual(Watch(book, ()).talk(2).ask, ('over', 'refused', 0))
        self.assertEqual(said_by(self, Watch(book, ()).talk(3).hear, {'answer': ()}).value, ('over', 'let'))


class Knowing(unittest.TestCase):
    def judge(self, book, value, throws, answers):
        """What the talk of a teller comes to who tells these answers at these throws."""
        said = tuple(((at, throws[:at]), answer) for at, answer in enumerate(answers))
        return judged(book, value, said, throws)

    def check(self, book, value, throws):
        found = knowing_answers(book, value, throws)
        half = (book.prime + 1) // 2
        degrees = round_degrees(book, book.functions[-1][0])
        if found == ('never',):
            self.assertNotEqual(value, result_of(book))
            self.assertTrue(all(degree == 0 or (degree, throw) == (1, half) for degree, throw in zip(degrees, throws)))
            return False
        word, answers = found
        self.assertEqual((word, answers.__class__, len(answers)), ('let', tuple, len(throws)))
        self.assertEqual([len(answer) for answer in answers], [degree + 1 for degree in degrees])
        self.assertEqual(self.judge(book, value, throws, answers), ('over', 'let'))
        self.assertIs(shows_knowing(book, value, throws, answers), True)
        return True

    def test_some(self):
        for source, book, throws in books(range(100)):
            result = result_of(book)
            half = (book.prime + 1) // 2
            self.assertTrue(self.check(book, result, throws))
            for row in (throws, (half,) * len(throws), throws[:-1] + (half,), (half,) + throws[1:]):
                for value in {(result + 1) % book.prime, source.randrange(book.prime)}:
                    self.check(book, value, row)

    def test_all_of_small_primes(self):
        texts = ['table t 1 2 0 2\nlet out = sum x sum y : t[x,y]', 'table t 1 2\nlet out = sum x sum y : t[x]^2', 'let out = sum x sum y : 1',
                 'table t 1 2\nlet out = sum x : t[x]*x^2', 'table t 0 1\nlet out = sum y sum x : t[x]', 'let out = : 2', 'table t 1 1\nlet out = sum x : t[x]^4']
        never = 0
        for prime in (3, 5):
            for text in texts:
                book = Book(f'prime {prime}\n{text}')
                for throws in itertools.product(range(prime), repeat=throws_many(book)):
                    for value in range(prime):
                        never += not self.check(book, value, throws)
        self.assertGreater(never, 20)

    def test_never_is_never(self):
        # Whatever is told at the one half, and where the degree is 0, nothing wrong is let.
        for text, throws in (('table t 1 2\nlet out = sum x : t[x]', (2,)), ('table t 1 2\nlet out = sum y sum x : t[x]', (0, 2)), ('let out = sum x : 2', (1,))):
            book = Book('prime 3\n' + text)
            degrees = round_degrees(book, 'out')
            for value in range(3):
                if value == result_of(book):
                    continue
                self.assertEqual(knowing_answers(book, value, throws), ('never',))
                ways = [list(itertools.product(range(3), repeat=degree + 1)) for degree in degrees]
                for answers in itertools.product(*ways):
                    self.assertIs(shows_knowing(book, value, throws, answers), False)

    def test_shows(self):
        for source, book, throws in books(range(80)):
            value = source.randrange(book.prime)
            found = knowing_answers(book, value, throws)
            if found == ('never',):
                continue
            answers = found[1]
            for at in range(len(answers)):
                for answer in (answers[at][:-1], answers[at] + (0,), list(answers[at]), None, residues(source, book.prime, len(answers[at])), (True,) * 2):
                    told = answers[:at] + (answer,) + answers[at + 1:]
                    right = isinstance(answer, tuple) and len(answer) == len(answers[at]) and all(part.__class__ is int for part in answer)
                    right = right and self.judge(book, value, throws, told) == ('over', 'let')
                    self.assertIs(shows_knowing(book, value, throws, told), right)
            for told in (answers + ((0,),), answers[:-1], list(answers), answers + answers, None, (answers,)):
                if told != answers:
                    self.assertIs(shows_knowing(book, value, throws, told), False)

    def test_shows_any_value(self):
        for value in NO_NUMBERS + [0, BOOK, ((),), ((1, 2, 3),) * 2]:
            self.assertIs(shows_knowing(BOOK, 2, (2, 3), value), False)
        empty = Book('prime 5\nlet out = : 3')
        for value in NO_NUMBERS:
            self.assertIs(shows_knowing(empty, 3, (), value), isinstance(value, tuple) and value == ())
            self.assertIs(shows_knowing(empty, 2, (), value), False)


if __name__ == '__main__':
    unittest.main()
