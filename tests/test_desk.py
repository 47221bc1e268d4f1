"""The desk (points 18 and 3)."""

import unittest

from fewthrows import errors
from fewthrows.books import Book, result_of
from fewthrows.degrees import number_of, throws_many
from fewthrows.desk import Desk
from fewthrows.errors import BadDeed, BadName, BadNames, BadNumber, NoBook, NoMark, NoTalk, OutOfTurn, ThrowError, TooFar
from fewthrows.talks import Talk
from fewthrows.tellers import honest_answer
from tests.model import TEXTS, Model, seen, some_deed, stand
from tests.support import DEEP, NO_NAMES, NO_NUMBERS, numbers, said_by

BOOK = Book(TEXTS[0])
EMPTY = Desk()
NO_WORDS = [value for value in NO_NAMES if value != 'abc']
# All of these are no names, or names of nothing on the desk.
NOBODY = NO_NAMES + ['z', 'nobody', BOOK, EMPTY]
LAY, BEGIN = ('lay', 'b', TEXTS[0]), ('begin', 'k', 'b', 3)


def desk_with(*deeds):
    desk = Desk()
    for deed in deeds:
        desk.do(deed)
    return desk


class Deeds(unittest.TestCase):
    def refused(self, desk, deed, error, value):
        """The deed raises just this, and changes nothing."""
        before = seen(desk)
        raised = said_by(self, desk.do, {'deed': deed})
        self.assertIs(raised.__class__, getattr(errors, error))
        if isinstance(value, (int, tuple)) and not isinstance(value, bool):
            self.assertEqual(raised.value, value)
            self.assertIs(raised.value.__class__, value.__class__)
        else:
            self.assertIs(raised.value, value)
        self.assertEqual(seen(desk), before)

    def test_what_is_no_deed(self):
        desk = desk_with(LAY, BEGIN)
        for value in NO_NUMBERS + [
                0, 1, 'lay', list(LAY), LAY[:-1], LAY + (1,), (LAY,), ('lay',), ('Lay', 'b', TEXTS[0]), ('undone',), ('mark', 'a', 1), ('honest',), ('honest', 'k', 1),
                ('close',), ('close', 'k', 'k'), ('throw', 'k'), ('throw', 'k', 1, 1), ('hear', 'k'), ('hear', 'k', 0, 3, 0), ('branch', 'k'), ('branch', 'k', 'm', 'n'),
                ('begin', 'm', 'b'), ('begin', 'm', 'b', 1, 1), (('lay',), 'b', 'x'), (['lay'], 'b', 'x'), (None, 'k'), (True, 'k'), (1, 'k'), ('', 'k'),
                ('lay ', 'b', 'x'), (b'lay', 'b', 'x'), {'lay': 1}, BOOK, desk]:
            self.refused(desk, value, 'BadDeed', value)

    def test_names(self):
        desk = desk_with(LAY, BEGIN)
        for value in NO_WORDS:
            self.refused(desk, ('lay', value, None), 'BadName', value)
            self.refused(desk, ('begin', value, None, None), 'BadName', value)
            self.refused(desk, ('branch', 'k', value), 'BadName', value)
        for value in NOBODY + ['b', BOOK]:
            for deed in (('hear', value, None), ('honest', value), ('throw', value, None), ('branch', value, None), ('close', value)):
                self.refused(desk, deed, 'NoTalk', value)
        for value in NOBODY + ['k']:
            self.refused(desk, ('begin', 'm', value, None), 'NoBook', value)
        self.refused(desk, ('lay', 'b', None), 'Taken', 'b')
        self.refused(desk, ('begin', 'k', None, None), 'Taken', 'k')
        self.refused(desk, ('branch', 'k', 'k'), 'Taken', 'k')
        # Books and talks do not share names.
        desk.do(('lay', 'k', TEXTS[1]))
        desk.do(('begin', 'b', 'k', 3))
        self.assertEqual((desk.books, desk.talks), (('b', 'k'), ('b', 'k')))
        self.refused(desk, ('branch', 'k', 'b'), 'Taken', 'b')

    def test_texts(self):
        desk = desk_with(LAY)
        for value in NO_NUMBERS + [0, BOOK]:
            self.refused(desk, ('lay', 'm', value), 'BadBook', 1 if isinstance(value, str) else 0)
        self.refused(desk, ('lay', 'm', TEXTS[0] + '\n'), 'BadBook', 4)
        self.refused(desk, ('lay', 'm', 'prime 5\ntable t 1 2'), 'BadBook', 3)

    def test_residues(self):
        desk = desk_with(LAY, BEGIN)
        for value in NO_NUMBERS + [5, 6, BOOK]:
            self.refused(desk, ('begin', 'm', 'b', value), 'BadResidue', value)
        ask = desk.talk_at('k').ask
        for value in NO_NUMBERS + [0, 5]:
            self.refused(desk, ('throw', 'k', value), 'OutOfTurn', ask)
        desk.do(('hear', 'k', (0, 3, 0)))
        for value in NO_NUMBERS + [5, 6, BOOK]:
            self.refused(desk, ('throw', 'k', value), 'BadResidue', value)
        for deed in (('hear', 'k', None), ('hear', 'k', (1, 1, 1)), ('honest', 'k')):
            self.refused(desk, deed, 'OutOfTurn', ('throw',))
        desk.do(('throw', 'k', 2))
        for deed in (('hear', 'k', None), ('hear', 'k', ()), ('honest', 'k'), ('throw', 'k', 2), ('throw', 'k', None)):
            self.refused(desk, deed, 'OutOfTurn', ('over', 'let'))

    def test_answers(self):
        for value in [wrong for wrong in NO_NUMBERS if wrong != ()] + [
                0, [0, 3, 0], (0, 3, 5), (0, 3, -1), (0, 3, True), (0, 3, None), (0,) * 202, (0,) * 201 + (5,), ((0, 3, 0),), (0, 3, '0'), BOOK]:
            self.refused(desk_with(LAY, BEGIN), ('hear', 'k', value), 'BadAnswer', value)
        for value in ((), (0,), (0, 3), (0, 0, 0), (0, 3, 0, 0), (4,) * 201):
            desk = desk_with(LAY, BEGIN, ('hear', 'k', value))
            self.assertEqual(desk.talk_at('k').ask, ('over', 'refused', 0))
        self.assertEqual(desk_with(LAY, BEGIN, ('hear', 'k', (0, 3, 0))).talk_at('k').ask, ('throw',))

    def test_full_of_books(self):
        desk = desk_with(*[('lay', 'b' + letter, TEXTS[0]) for letter in 'abcdefghijkl'])
        self.assertEqual(len(desk.books), 12)
        deed = ('lay', 'x', TEXTS[1])
        self.refused(desk, deed, 'Full', deed)
        self.refused(desk, ('lay', 'ba', TEXTS[1]), 'Taken', 'ba')
        self.refused(desk, ('lay', 'x', 'prime'), 'BadBook', 1)
        desk.do(('begin', 'x', 'ba', 3))
        desk.back(2)
        desk.do(deed)
        self.assertEqual((len(desk.books), desk.talks), (12, ()))

    def test_full_of_talks(self):
        names = [one + other for one in 'abcde' for other in 'abcdefgh']
        desk = desk_with(LAY, *[('begin', name, 'b', 3) for name in names])
        self.assertEqual(len(desk.talks), 40)
        for deed in (('begin', 'x', 'b', 3), ('branch', 'aa', 'x')):
            self.refused(desk, deed, 'Full', deed)
        self.refused(desk, ('begin', 'x', 'b', 5), 'BadResidue', 5)
        self.refused(desk, ('begin', 'x', 'c', 3), 'NoBook', 'c')
        self.refused(desk, ('branch', 'aa', 'ab'), 'Taken', 'ab')
        desk.do(('hear', 'aa', (0, 3, 0)))
        desk.do(('lay', 'c', TEXTS[1]))
        desk.do(('close', 'ab'))
        desk.do(('branch', 'aa', 'ab'))
        self.assertEqual((len(desk.talks), desk.talk_at('ab').ask), (40, ('throw',)))
        deed = ('branch', 'aa', 'x')
        self.refused(desk, deed, 'Full', deed)

    def test_full_of_deeds(self):
        deeds = [LAY] + [('begin', 'k', 'b', 3), ('hear', 'k', ()), ('close', 'k')] * 133
        desk = desk_with(*deeds)
        self.assertEqual(len(desk.deeds), 400)
        for deed in (('begin', 'k', 'b', 3), ('lay', 'c', TEXTS[1])):
            self.refused(desk, deed, 'Full', deed)
        self.refused(desk, ('close', 'k'), 'NoTalk', 'k')
        desk.back(1)
        self.assertEqual(len(desk.deeds), 399)
        # Undone deeds do not count.
        desk.do(('branch', 'k', 'm'))
        self.assertEqual((len(desk.deeds), desk.undone), (400, ()))
        self.refused(desk, ('close', 'm'), 'Full', ('close', 'm'))
        self.refused(desk, ('honest', 'm'), 'OutOfTurn', ('over', 'refused', 0))
        desk.back(400)
        self.assertEqual((len(desk.undone), desk.books), (400, ()))
        desk.do(LAY)
        self.assertEqual((desk.deeds, desk.undone), ((LAY,), ()))

    def test_many(self):
        kinds = set()
        for seed in range(25):
            source = numbers(seed)
            desk, model = Desk(), Model()
            for _ in range(60):
                way = source.random()
                if way < 0.8:
                    deed = some_deed(source, model)
                    wanted = model.error(deed)
                    if wanted is None:
                        self.assertIsNone(desk.do(deed))
                        model.do(deed)
                    else:
                        kinds.add(wanted[0])
                        self.refused(desk, deed, *wanted)
                elif way < 0.86 and model.deeds:
                    many = source.randint(1, min(4, len(model.deeds)))
                    self.assertIsNone(desk.back(many))
                    model.go(len(model.deeds) - many)
                elif way < 0.9 and model.undone:
                    many = source.randint(1, len(model.undone))
                    self.assertIsNone(desk.on(many))
                    model.go(len(model.deeds) + many)
                elif way < 0.96:
                    word = source.choice(('here', 'there', 'a', 'zz'))
                    self.assertIsNone(desk.mark(word))
                    model.marks[word] = len(model.deeds)
                elif model.marks:
                    word = source.choice(sorted(model.marks))
                    self.assertIsNone(desk.to(word))
                    model.go(model.marks[word])
                self.assertEqual(seen(desk), model.seen())
        self.assertLessEqual({'Taken', 'NoTalk', 'OutOfTurn', 'BadAnswer', 'NoBook'}, kinds)


class Going(unittest.TestCase):
    def setUp(self):
        self.desk = desk_with(LAY, BEGIN, ('hear', 'k', (0, 3, 0)), ('branch', 'k', 'm'), ('throw', 'k', 2), ('throw', 'm', 3))

    def raises(self, function, value, error):
        before = seen(self.desk)
        with self.assertRaises(ThrowError) as caught:
            function(value)
        self.assertIs(caught.exception.__class__, error)
        self.assertIs(caught.exception.value, value)
        self.assertEqual(seen(self.desk), before)

    def test_back_and_on(self):
        desk = self.desk
        for value in NO_NUMBERS + [0]:
            if value.__class__ is int and value > 0:
                self.raises(desk.back, value, TooFar)
                self.raises(desk.on, value, TooFar)
            else:
                self.raises(desk.back, value, BadNumber)
                self.raises(desk.on, value, BadNumber)
        self.raises(desk.back, 7, TooFar)
        self.raises(desk.on, 1, TooFar)
        before = [seen(desk)]
        for many in range(1, 7):
            desk.back(many=1)
            before.append(seen(desk))
            self.assertEqual((len(desk.deeds), len(desk.undone)), (6 - many, many))
            self.raises(desk.on, many + 1, TooFar)
            self.raises(desk.back, 7 - many, TooFar)
        self.assertEqual((desk.books, desk.talks, desk.deeds), ((), (), ()))
        for many in range(5, -1, -1):
            desk.on(many=1)
            self.assertEqual(seen(desk), before[many])
        desk.back(6)
        self.assertEqual(seen(desk), before[6])
        desk.on(6)
        self.assertEqual(seen(desk), before[0])

    def test_a_deed_drops_what_was_undone(self):
        desk = self.desk
        desk.back(2)
        desk.do(('throw', 'k', 1))
        self.assertEqual((desk.undone, desk.deeds[-1], len(desk.deeds)), ((), ('throw', 'k', 1), 5))
        self.assertEqual([desk.talk_at(name).ask for name in desk.talks], [('over', 'refused', 1), ('throw',)])
        # A deed that raises drops nothing.
        desk.back(1)
        self.raises(desk.do, ('nothing',), BadDeed)
        self.assertEqual(desk.undone, (('throw', 'k', 1),))

    def test_marks(self):
        desk = self.desk
        for value in NO_WORDS:
            self.raises(desk.mark, value, BadName)
        for value in NO_NAMES + ['a', 'k', BOOK, desk]:
            self.raises(desk.to, value, NoMark)
        desk.mark(word='end')
        desk.back(6)
        desk.mark('begin')
        desk.on(3)
        desk.mark('mid')
        desk.mark('eighteen')
        self.assertEqual(desk.marks, ('begin', 'eighteen', 'end', 'mid'))
        for word, many in (('end', 6), ('begin', 0), ('mid', 3), ('eighteen', 3), ('end', 6), ('end', 6)):
            self.assertIsNone(desk.to(word=word))
            self.assertEqual((len(desk.deeds), len(desk.undone)), (many, 6 - many))
        desk.to('mid')
        desk.mark('begin')
        desk.back(1)
        desk.to('begin')
        self.assertEqual(len(desk.deeds), 3)
        # Marks behind dropped deeds are dropped, that right behind the last deed stays.
        desk.do(('close', 'k'))
        self.assertEqual(desk.marks, ('begin', 'eighteen', 'mid'))
        self.raises(desk.to, 'end', NoMark)
        desk.mark('end')
        desk.back(2)
        self.assertEqual(desk.marks, ('begin', 'eighteen', 'end', 'mid'))
        desk.do(('close', 'k'))
        self.assertEqual(desk.marks, ())

    def test_marks_are_no_deeds(self):
        desk = self.desk
        desk.back(2)
        desk.mark('a')
        self.assertEqual((len(desk.deeds), len(desk.undone)), (4, 2))
        desk.on(2)
        self.assertEqual(desk.marks, ('a',))

    def test_attributes(self):
        for name in ('deeds', 'undone', 'books', 'talks', 'marks'):
            self.assertEqual(vars(Desk())[name], ())

    def test_what_lies_there(self):
        desk = self.desk
        for value in NOBODY:
            self.raises(desk.book_at, value, NoBook)
            self.raises(desk.talk_at, value, NoTalk)
        self.raises(desk.book_at, 'k', NoBook)
        self.raises(desk.talk_at, 'b', NoTalk)
        self.assertEqual(desk.book_at(name='b'), BOOK)
        self.assertEqual(desk.talk_at(name='m').throws, (3,))
        desk.back(4)
        self.raises(desk.talk_at, 'm', NoTalk)

    def test_what_is_told_changes_nothing(self):
        desk = self.desk
        desk.back(2)
        before = seen(desk)
        talk = desk.talk_at('k')
        talk.throw(2)
        self.assertEqual(talk.ask, ('over', 'let'))
        self.assertEqual(seen(desk), before)
        desk.back(2)
        talk = desk.talk_at('k')
        talk.hear(None)
        self.assertEqual(desk.talk_at('k').ask, ('polynomial', 'out', 'sum', (), 'x', 2, 0))
        desk.do(('honest', 'k'))
        self.assertEqual(desk.talk_at('k').ask, ('over', 'refused', 0))
        desk.back(1)
        desk.do(('hear', 'k', (0, 3, 0)))
        talk = desk.talk_at('k')
        desk.do(('throw', 'k', 0))
        self.assertEqual(talk.ask, ('throw',))

    def test_branches_go_their_own_ways(self):
        desk = desk_with(('lay', 'b', TEXTS[1]))
        book = desk.book_at('b')
        value = result_of(book)
        desk.do(('begin', 'k', 'b', value))
        talks = {'k': Talk(book, value)}
        source = numbers(3)
        for at in range(60):
            name = source.choice(sorted(talks))
            talk = talks[name]
            if source.random() < 0.15 and len(talks) < 12:
                other = 'br' + 'abcdefghijklmno'[len(talks)]
                talks[other] = talk.copy()
                desk.do(('branch', name, other))
            elif talk.ask == ('throw',):
                residue = source.randrange(5)
                talk.throw(residue)
                desk.do(('throw', name, residue))
            elif talk.ask[0] != 'over':
                talk.hear(honest_answer(book, talk.ask))
                desk.do(('honest', name))
            self.assertEqual({name: stand(desk.talk_at(name)) for name in desk.talks}, {name: stand(talk) for name, talk in talks.items()})
        self.assertIn(('over', 'let'), [talk.ask for talk in talks.values()])
        self.assertGreater(len(talks), 4)


class Sums(unittest.TestCase):
    def test_names(self):
        desk = desk_with(LAY, ('lay', 'c', TEXTS[0]), ('lay', 'd', TEXTS[1]), BEGIN, ('begin', 'm', 'c', 3), ('begin', 'n', 'b', 2), ('begin', 'o', 'd', 3))
        before = seen(desk)
        wrong = NO_NUMBERS + [
            'k', ['k'], ('z',), ('k', 'k'), ('m', 'k'), ('k', 'b'), ('k', 'm', 'z'), ('k', None), ('k', ('m',)), ('k', 1), (1, 'k'), (['k'],), {'k': 1}, ('k', 'm', 'm'),
            (), ('K',), BOOK, desk, DEEP, ('o', 'k')]
        for value in wrong:
            for function in (desk.all_let, desk.any_let):
                raised = said_by(self, function, {'names': value})
                self.assertIs(raised.__class__, BadNames)
                self.assertIs(raised.value, value)
        # One text and one value are asked for by all_let alone; the books' names do not count.
        for value in (('k', 'n'), ('k', 'o'), ('m', 'n', 'o'), ('k', 'm', 'n')):
            raised = said_by(self, desk.all_let, {'names': value})
            self.assertEqual((raised.__class__, raised.value), (BadNames, value))
            desk.any_let(value)
        self.assertEqual(desk.all_let(names=('k', 'm')), (4, 25))
        self.assertEqual(seen(desk), before)

    def test_numbers(self):
        books = {name: Book(text) for name, text in zip('abcde', TEXTS)}
        desk = desk_with(*[('lay', name, book.text) for name, book in books.items()])
        for name in books:
            for other in 'xyz':
                desk.do(('begin', name + other, name, 2))
        shares = {name: (number_of(book), book.prime ** throws_many(book)) for name, book in books.items()}
        for name, (many, rows) in shares.items():
            for names in ((name + 'x',), (name + 'x', name + 'z'), (name + 'x', name + 'y', name + 'z')):
                self.assertEqual(desk.all_let(names), (many ** len(names), rows ** len(names)))
                self.assertEqual(desk.any_let(names), (many * rows ** (len(names) - 1), rows ** len(names)))
        source = numbers(2)
        for _ in range(40):
            names = tuple(sorted(source.sample(desk.talks, source.randint(1, 15))))
            rows = [shares[name[0]][1] for name in names]
            product = 1
            for part in rows:
                product *= part
            self.assertEqual(desk.any_let(names), (max(product // shares[name[0]][1] * shares[name[0]][0] for name in names), product))

    def test_closed_names_are_used_again(self):
        desk = desk_with(LAY, ('lay', 'd', TEXTS[2]), BEGIN, ('hear', 'k', ()), ('close', 'k'))
        self.assertEqual(desk.talks, ())
        self.assertIs(said_by(self, desk.all_let, {'names': ('k',)}).__class__, BadNames)
        desk.do(('begin', 'k', 'd', 1))
        self.assertEqual(desk.talk_at('k').book.text, TEXTS[2])
        self.assertEqual(desk.any_let(('k',)), (number_of(Book(TEXTS[2])), 3 ** throws_many(Book(TEXTS[2]))))

    def test_out_of_turn_tells_the_ask(self):
        desk = desk_with(('lay', 'e', TEXTS[4]), ('begin', 'k', 'e', 3), ('begin', 'm', 'e', 2))
        for name, ask in (('k', ('over', 'let')), ('m', ('over', 'refused', 0))):
            for deed in (('hear', name, ()), ('honest', name), ('throw', name, 0)):
                raised = said_by(self, desk.do, {'deed': deed})
                self.assertEqual((raised.__class__, raised.value), (OutOfTurn, ask))


if __name__ == '__main__':
    unittest.main()
