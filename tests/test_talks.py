"""Talks (points 8 and 3)."""

import copy
import unittest

from fewthrows.books import Book, result_of
from fewthrows.degrees import steps_of, throws_many
from fewthrows.errors import BadBook, BadResidue, OutOfTurn
from fewthrows.talks import Talk, right_claims
from fewthrows.tellers import honest_answer
from tests.reference import some_text
from tests.rules import RuleTalk
from tests.support import NO_NUMBERS, numbers, said_by

TEXT = 'prime 5\ntable t 1 2 0 3\nlet f x y = sum z : t[x,z]*t[z,y]\nlet out = sum a : f[a,0]*f[a,1]+f[1,a]'
BOOK = Book(TEXT)
SEEN = ('book', 'value', 'ask', 'step', 'throws', 'claims')


def seen(talk):
    """All that a talk shows."""
    return {name: getattr(talk, name) for name in SEEN}


def books(seeds, **more):
    for seed in seeds:
        source = numbers(seed)
        prime = source.choice((3, 5, 7, 101, 1000003))
        text = some_text(source, prime, source.randint(1, 3), source.randint(1, 4), **more)
        try:
            book = Book(text)
        except BadBook:
            continue
        if sum(step[-1] for step in steps_of(book) if step[0] != 'parts') <= 60:
            yield source, book


def lie(source, rule, honest):
    """An answer that is not always the honest one, and keeps the check more often than not."""
    prime = rule.ref.prime
    way = source.random()
    if way < 0.4:
        return honest
    if way < 0.45:
        return source.choice((honest + (0,), honest[:-1], list(honest), None, honest[:-1] + (prime,), (True,) * len(honest)))
    answer = honest
    for _ in range(100 if prime < 10 else 1):
        answer = tuple(source.randrange(prime) if source.random() < 0.7 else part for part in honest)
        if rule.keeps(answer):
            break
    return answer


class Arguments(unittest.TestCase):
    def test_value(self):
        for value in NO_NUMBERS + [5, 6, 10 ** 299, BOOK, (0,), [0]]:
            with self.assertRaises(BadResidue) as caught:
                Talk(BOOK, value)
            self.assertIs(caught.exception.value, value)
        for value in range(5):
            self.assertEqual(Talk(BOOK, value).value, value)
        for prime in (3, 5, 7, 101, 1000003):
            book = Book(f'prime {prime}\nlet out = sum x : x')
            self.assertEqual(Talk(book, prime - 1).value, prime - 1)
            self.assertIs(said_by(self, Talk, {'book': book, 'value': prime}).value, prime)

    def test_throw(self):
        talk = Talk(BOOK, result_of(BOOK))
        talk.hear(honest_answer(BOOK, talk.ask))
        before = seen(talk)
        for value in NO_NUMBERS + [5, 6, BOOK, (0,), [0]]:
            raised = said_by(self, talk.throw, {'residue': value})
            self.assertIs(raised.__class__, BadResidue)
            self.assertIs(raised.value, value)
            self.assertEqual(seen(talk), before)
        self.assertIsNone(talk.throw(residue=4))
        self.assertEqual(talk.throws, (4,))

    def test_answers_of_all_kinds_are_refused(self):
        first = Talk(BOOK, result_of(BOOK))
        honest = honest_answer(BOOK, first.ask)
        wrong = NO_NUMBERS + [
            0, (), honest[:-1], honest + (0,), list(honest), honest[:-1] + (honest[-1] + 5,), honest[:-1] + (honest[-1] - 5,),
            honest[:-1] + (True,), honest[:-1] + (None,), (honest,), honest[:-1] + ((honest[-1],),), BOOK, first, dict(enumerate(honest)),
        ]
        for value in wrong:
            talk = first.copy()
            self.assertIsNone(talk.hear(answer=value))
            self.assertEqual(seen(talk), {**seen(first), 'ask': ('over', 'refused', 0)})
        self.assertIsNone(first.hear(answer=honest))
        self.assertEqual(first.ask, ('throw',))

    def test_True_is_no_residue_in_answers(self):
        book = Book('prime 5\nlet f x = : x\nlet out = : f[1]+f[0]')
        for answer in ((1, 0), (True, 0), (1, False), (1,), (1, 0, 0), (2, 4), (2, 0)):
            talk = Talk(book, 1)
            talk.hear(answer)
            good = answer in ((1, 0), (2, 4)) and all(part.__class__ is int for part in answer)
            self.assertEqual(talk.ask[0], 'line' if good else 'over')

    def test_out_of_turn(self):
        talk = Talk(BOOK, result_of(BOOK))
        many = {'line': 0, 'polynomial': 0, 'values': 0, 'throw': 0, 'over': 0}

        def try_wrong_turn(function, name):
            before = seen(talk)
            many[talk.ask[0]] += 1
            for value in (0, 1, 7, None, True, (), 'x', talk.ask):
                raised = said_by(self, function, {name: value})
                self.assertIs(raised.__class__, OutOfTurn)
                self.assertEqual(raised.value, talk.ask)
                self.assertEqual(seen(talk), before)

        while talk.ask[0] != 'over':
            if talk.ask == ('throw',):
                try_wrong_turn(talk.hear, 'answer')
                talk.throw(3)
            else:
                try_wrong_turn(talk.throw, 'residue')
                talk.hear(honest_answer(BOOK, talk.ask))
        for ask in (('over', 'let'), ('over', 'refused', 0)):
            self.assertEqual(talk.ask, ask)
            try_wrong_turn(talk.hear, 'answer')
            try_wrong_turn(talk.throw, 'residue')
            talk = Talk(BOOK, (result_of(BOOK) + 1) % 5)
            talk.hear((0, 0, 0))
        self.assertGreater(min(many.values()), 0)


class Asks(unittest.TestCase):
    def test_sequence(self):
        # f has three claims of the body of out, so two lines.
        value = result_of(BOOK)
        talk = Talk(BOOK, value)
        self.assertEqual(seen(talk), {'book': BOOK, 'value': value, 'step': 0, 'throws': (), 'claims': (('out', (), value),),
                                      'ask': ('polynomial', 'out', 'sum', (), 'a', 2, 0)})
        honest = honest_answer(BOOK, talk.ask)
        talk.hear(honest)
        self.assertEqual((talk.ask, talk.step, talk.claims), (('throw',), 0, (('out', (), value),)))
        talk.throw(3)
        at = sum(part * 3 ** power for power, part in enumerate(honest)) % 5
        self.assertEqual((talk.step, talk.throws, talk.claims), (1, (3,), (('out', (('a', 3),), at),)))
        self.assertEqual(talk.ask, ('values', 'out', (('f', (3, 0)), ('f', (3, 1)), ('f', (1, 3))), 1))
        told = honest_answer(BOOK, talk.ask)
        talk.hear(told)
        self.assertEqual(talk.claims, (
            ('f', (('x', 3), ('y', 0)), told[0]), ('f', (('x', 3), ('y', 1)), told[1]), ('f', (('x', 1), ('y', 3)), told[2])))
        self.assertEqual(talk.ask, ('line', 'f', (3, 0), (3, 1), 2, 2))
        line = honest_answer(BOOK, talk.ask)
        talk.hear(line)
        talk.throw(2)
        value = (line[0] + 2 * line[1] + 4 * line[2]) % 5
        self.assertEqual(talk.claims, (('f', (('x', 3), ('y', 2)), value), ('f', (('x', 1), ('y', 3)), told[2])))
        self.assertEqual(talk.ask, ('line', 'f', (3, 2), (1, 3), 2, 3))
        talk.hear(honest_answer(BOOK, talk.ask))
        talk.throw(4)
        self.assertEqual(talk.claims[0][1], (('x', (3 + 4 * (1 - 3)) % 5), ('y', (2 + 4 * (3 - 2)) % 5)))
        self.assertEqual(talk.ask, ('polynomial', 'f', 'sum', (('x', 0), ('y', 1)), 'z', 2, 4))
        talk.hear(honest_answer(BOOK, talk.ask))
        talk.throw(0)
        self.assertEqual((talk.ask, talk.step, talk.claims, talk.throws), (('over', 'let'), 6, (), (3, 2, 4, 0)))

    def test_low_keeps_the_place_of_its_name(self):
        book = Book('prime 7\nlet f x y = sum z low x low z : x^2*y*z^2\nlet out = : f[2,3]')
        talk = Talk(book, result_of(book))
        asks = []
        throws = iter((4, 5, 6))
        while talk.ask[0] != 'over':
            if talk.ask == ('throw',):
                talk.throw(next(throws))
            else:
                asks.append(talk.ask)
                talk.hear(honest_answer(book, talk.ask))
        self.assertEqual(asks[1:], [
            ('polynomial', 'f', 'sum', (('x', 2), ('y', 3)), 'z', 1, 1),
            ('polynomial', 'f', 'low', (('x', 2), ('y', 3), ('z', 4)), 'x', 2, 2),
            ('polynomial', 'f', 'low', (('x', 5), ('y', 3), ('z', 4)), 'z', 2, 3),
        ])
        self.assertEqual(talk.ask, ('over', 'let'))

    def test_later_lines_first(self):
        book = Book('prime 7\nlet f x = : x\nlet g x = : f[x]+1\nlet h x = : f[0]+g[x]\nlet out = : f[1]+g[2]*f[3]+h[4]+g[5]')
        talk = Talk(book, result_of(book))
        talk.hear(honest_answer(book, talk.ask))
        self.assertEqual([(name, known[0][1]) for name, known, _ in talk.claims],
                         [('h', 4), ('g', 2), ('g', 5), ('f', 1), ('f', 3)])
        self.assertEqual(talk.ask, ('values', 'h', (('f', (0,)), ('g', (4,))), 1))
        talk.hear(honest_answer(book, talk.ask))
        self.assertEqual([(name, known[0][1]) for name, known, _ in talk.claims],
                         [('g', 2), ('g', 5), ('g', 4), ('f', 1), ('f', 3), ('f', 0)])
        self.assertEqual(talk.ask, ('line', 'g', (2,), (5,), 1, 2))

    def test_nothing_is_asked(self):
        for book, value in ((Book('prime 7\nlet out = : 3+3'), 6), (Book('prime 7\ntable t 4 5\nlet out = : t[3]'), 0)):
            for claimed in range(7):
                talk = Talk(book, claimed)
                if claimed == value:
                    self.assertEqual(seen(talk), {**seen(talk), 'ask': ('over', 'let'), 'step': 1, 'claims': ()})
                else:
                    self.assertEqual((talk.ask, talk.step, talk.claims),
                                     (('over', 'refused', 0), 0, (('out', (), claimed),)))

    def test_refused_at_the_last_look(self):
        book = Book('prime 5\ntable t 1 2\nlet out = sum x : t[x]*x')
        for throw in range(5):
            talk = Talk(book, 3)
            talk.hear((0, 3, 0))
            talk.throw(throw)
            if throw in (0, 2):
                self.assertEqual((talk.ask, talk.step, talk.claims), (('over', 'let'), 2, ()))
            else:
                self.assertEqual((talk.ask, talk.step), (('over', 'refused', 1), 1))
                self.assertEqual(talk.claims, (('out', (('x', throw),), 3 * throw % 5),))
                self.assertEqual(right_claims(talk), (False,))
            self.assertEqual(talk.throws, (throw,))


class ByRules(unittest.TestCase):
    def lead(self, source, book, value):
        """Lead a talk to its end beside one by the rules; returns the words of all asks."""
        talk, rule = Talk(book, value), RuleTalk(book.text, value)
        words = []
        while True:
            self.assertEqual(talk.ask, rule.ask(), book.text)
            self.assertEqual(talk.claims, rule.claims(), book.text)
            self.assertEqual((talk.throws, talk.step), (tuple(rule.throws), rule.at))
            self.assertEqual(right_claims(talk), rule.right(), book.text)
            words.append(talk.ask[0])
            if talk.ask[0] == 'over':
                return words + [talk.ask[1]]
            if talk.ask == ('throw',):
                residue = source.randrange(min(book.prime, 4))
                told = (talk.throw(residue), rule.throw(residue))
            else:
                answer = lie(source, rule, honest_answer(book, talk.ask))
                told = (talk.hear(answer), rule.hear(answer))
            self.assertEqual(told, (None, None))

    def test_talks(self):
        words = []
        for source, book in books(range(300), operators=2, calls=0.5):
            value = source.choice((result_of(book), source.randrange(book.prime)))
            words += self.lead(source, book, value)
        for word in ('line', 'polynomial', 'values', 'throw', 'let', 'refused'):
            self.assertGreater(words.count(word), 20, word)

    def test_talks_with_lines(self):
        words = []
        for source, book in books(range(1000, 1120), operators=1, calls=0.8):
            words += self.lead(source, book, result_of(book))
        self.assertGreater(words.count('line'), 20)

    def test_right_is_let(self):
        for source, book in books(range(2000, 2100), operators=2, calls=0.5):
            talk = Talk(book, result_of(book))
            while talk.ask[0] != 'over':
                self.assertTrue(all(right_claims(talk)))
                if talk.ask == ('throw',):
                    talk.throw(source.choice((0, 1, book.prime - 1, source.randrange(book.prime))))
                else:
                    talk.hear(honest_answer(book, talk.ask))
            self.assertEqual(talk.ask, ('over', 'let'))
            self.assertEqual(talk.claims, ())
            self.assertEqual(right_claims(talk), ())
            self.assertEqual(len(talk.throws), throws_many(book))
            self.assertEqual(talk.step, len(steps_of(book)))

    def test_some_claim_stays_wrong(self):
        # In a field this great no throw of this row is a lucky one.
        for source, book in books(range(2100, 2200), operators=2, calls=0.5):
            if book.prime != 1000003:
                continue
            talk = Talk(book, (result_of(book) + 1) % book.prime)
            while talk.ask[0] != 'over':
                self.assertIn(False, right_claims(talk))
                if talk.ask == ('throw',):
                    talk.throw(source.randrange(book.prime))
                else:
                    talk.hear(honest_answer(book, talk.ask))
            self.assertEqual(talk.ask, ('over', 'refused', 0 if steps_of(book)[0][0] == 'round' else talk.step))


class Copies(unittest.TestCase):
    def test_go_on_by_themselves(self):
        for source, book in books(range(3000, 3060), operators=2, calls=0.5):
            talk = Talk(book, result_of(book))
            while talk.ask[0] != 'over':
                twin = talk.copy()
                self.assertIs(twin.__class__, Talk)
                before = seen(talk)
                self.assertEqual(seen(twin), before)
                if talk.ask == ('throw',):
                    for residue in range(min(book.prime, 7)):
                        talk.copy().throw(residue)
                    twin.throw(1)
                    self.assertEqual(seen(talk), before)
                    residue = source.randrange(book.prime)
                    branch = talk.copy()
                    talk.throw(residue)
                    branch.throw(residue)
                    self.assertEqual(seen(branch), seen(talk))
                else:
                    answer = honest_answer(book, talk.ask)
                    twin.hear(answer)
                    refused = talk.copy()
                    refused.hear(None)
                    self.assertEqual(seen(talk), before)
                    after = seen(twin)
                    talk.hear(answer)
                    self.assertEqual(seen(twin), after)
                    self.assertEqual(seen(talk), after)
            self.assertEqual(seen(talk.copy()), seen(talk))

    def test_refused_copies(self):
        talk = Talk(BOOK, 1)
        talk.hear(())
        self.assertEqual(seen(talk.copy()), seen(talk))
        self.assertEqual(talk.copy().ask, ('over', 'refused', 0))

    def test_attributes_are_set(self):
        for value in range(5):
            talk = Talk(value=value, book=BOOK)
            for name in SEEN:
                self.assertIn(name, vars(talk))
            self.assertEqual(seen(copy.deepcopy(talk)), seen(talk))
            self.assertIs(talk.book, BOOK)


if __name__ == '__main__':
    unittest.main()
