"""Tellers (points 8 and 3)."""

import itertools
import unittest

from fewthrows.books import Book, result_of
from fewthrows.degrees import is_plain, number_of, steps_of, throws_many
from fewthrows.errors import BadAnswers, BadAsk, BadBook, BadResidue, BadThrows, NotPlain
from fewthrows.polynomials import agree_at
from fewthrows.talks import Talk, right_claims
from fewthrows.tellers import honest_answer, judged, lucky_answer, talk_of
from tests.reference import Reference, some_text
from tests.rules import RuleTalk
from tests.support import NO_NUMBERS, Wrong, numbers, residues, said_by, try_by_position, try_order, try_wrong

TEXT = 'prime 5\ntable t 1 2 0 3\nlet f x y = sum z : t[x,z]*t[z,y]\nlet out = sum a : f[a,0]*f[a,1]+f[1,a]'
BOOK = Book(TEXT)
LINE = ('line', 'f', (3, 0), (1, 4), 2, 2)
ROUND = ('polynomial', 'f', 'sum', (('x', 2), ('y', 4)), 'z', 2, 4)
VALUES = ('values', 'out', (('f', (3, 0)), ('f', (3, 1)), ('f', (1, 3))), 1)
ANSWERS = (((0, ()), (3, 0, 0)), ((2, (1,)), ()), ((0, (1,)), (3, 0, 0)), ((5, (1, 2, 3, 4)), (4,) * 30))
# Tuples of residues are right as answers and as throws; () is an answer book and a row of throws.
NO_ANSWERS = [wrong for wrong in NO_NUMBERS if wrong != ()] + [
    0, [()], ((),), (((0, ()), (1,)), ((0, ()), (1,))), (((0, ()), (1,)), ((0, ()), (2,))), (((6, ()), (1,)),), (((-1, ()), (1,)),),
    (((True, ()), (1,)),), (((False, ()), (1,)),), (((0, ()), (5,)),), (((0, (5,)), (1,)),), (((0, ()), [1]),), (((0, []), (1,)),),
    (([0, ()], (1,)),), ([(0, ()), (1,)],), [((0, ()), (1,))], (((0, ()), (1,), ()),), (((0, (), ()), (1,)),), (((0,), (1,)),),
    (((0, ()),),), (((0, (True,)), (1,)),), (((0, ()), (True,)),), (((0, ()), (-1,)),), (((0, (-1,)), (1,)),), ((0, (), (1,)),),
    (((0, ()), 1),), (((0, 1), (1,)),), (((0, ()), None),), (((None, ()), (1,)),), ((('0', ()), (1,)),), (((0, None), (1,)),),
    {(0, ()): (1,)}, ({(0, ()): (1,)},), (((0, ()), {}),), (((0, ()), ((1,),)),), (((0, ((1,),)), (1,)),), (BOOK,), BOOK,
    ANSWERS + ANSWERS[2:3], ANSWERS + (((0, ()), (4, 4, 4)),), (None,) + ANSWERS, (((0.0, ()), (1,)),),
]
ROW = (1, 2, 3, 4)
NO_ROWS = NO_NUMBERS + [
    0, 4, (1, 2, 3), (1, 2, 3, 4, 0), (1, 2, 3, 5), (5, 1, 2, 3), [1, 2, 3, 4], (1, 2, 3, True), (1, 2, 3, None), '1234', (ROW,),
    (1, 2, 3, '4'), (1, 2, 3, -1), {1: 2}, BOOK, (1, 2, 3, BOOK),
]
BAD_VALUE = (BadResidue, NO_NUMBERS + [5, 6, (0,), BOOK])

CASES = [
    Wrong(judged, {'book': BOOK, 'value': 2, 'answers': ANSWERS, 'throws': ROW},
          {'value': BAD_VALUE, 'answers': (BadAnswers, NO_ANSWERS), 'throws': (BadThrows, NO_ROWS)}),
    Wrong(talk_of, {'book': BOOK, 'value': 2, 'answers': ANSWERS, 'throws': ROW},
          {'value': BAD_VALUE, 'answers': (BadAnswers, NO_ANSWERS),
           'throws': (BadThrows, [wrong for wrong in NO_ROWS if wrong not in ((), (1, 2, 3))])}),
    Wrong(honest_answer, {'book': BOOK, 'ask': ROUND}, {'ask': (BadAsk, NO_NUMBERS + [
        0, ('throw',), ('over', 'let'), ('over', 'refused', 0), 'polynomial', ('polynomial',), ('line',), ('values',), BOOK, (BOOK,),
        ('parts', 'out', (), 1), ('round', 'f', 'sum', 'z', 2), ('values', 'f', (), 5), (ROUND,), list(ROUND), list(LINE), list(VALUES),
        ('honest',) + ROUND[1:], ([],) + ROUND[1:], (None,) + ROUND[1:], ('line',) + ROUND[1:], ('values',) + ROUND[1:],
    ])}),
]


def some_books(seeds, **more):
    for seed in seeds:
        source = numbers(seed)
        prime = source.choice((3, 5, 7, 101, 1000003))
        text = some_text(source, prime, source.randint(1, 3), source.randint(1, 4), **more)
        try:
            book = Book(text)
        except BadBook:
            continue
        if sum(step[-1] for step in steps_of(book) if step[0] != 'parts') <= 60:
            yield source, book


def rows_of(book):
    """All rows of throws."""
    return list(itertools.product(range(book.prime), repeat=throws_many(book)))


def keeping(rule, many):
    """All answers, to the ask at hand, that keep its check."""
    return [answer for answer in itertools.product(range(rule.ref.prime), repeat=many) if rule.keeps(answer)]


class Arguments(unittest.TestCase):
    def test_each_alone(self):
        for case in CASES:
            try_wrong(self, case)

    def test_first_is_told(self):
        for case in CASES:
            try_order(self, case)

    def test_by_position_and_name(self):
        for case in (CASES[0], CASES[2]):
            try_by_position(self, case)
        talks = [talk_of(BOOK, 2, ANSWERS, ROW), talk_of(throws=ROW, answers=ANSWERS, value=2, book=BOOK)]
        self.assertEqual(talks[0].ask, talks[1].ask)

    def test_answer_books_of_all_sizes(self):
        for answers in ((), ANSWERS, (((5, ()), ()),), (((5, (4,) * 9), (4,) * 300),), tuple(((0, (at,)), ()) for at in range(5))):
            self.assertEqual(judged(BOOK, 2, answers, ROW)[0], 'over')

    def test_shorter_rows(self):
        for many in range(8):
            row = (1,) * many
            if many <= 4:
                self.assertEqual(talk_of(BOOK, result_of(BOOK), (), row).throws, row)
            else:
                raised = said_by(self, talk_of, {'book': BOOK, 'value': 1, 'answers': (), 'throws': row})
                self.assertIs(raised.__class__, BadThrows)
                self.assertIs(raised.value, row)
            if many != 4:
                raised = said_by(self, judged, {'book': BOOK, 'value': 1, 'answers': (), 'throws': row})
                self.assertIs(raised.value, row)


class Asks(unittest.TestCase):
    def bad(self, book, ask):
        with self.subTest(ask=ask):
            raised = said_by(self, honest_answer, {'book': book, 'ask': ask})
            self.assertIs(raised.__class__, BadAsk)
            self.assertIs(raised.value, ask)

    def test_right_ones(self):
        ref = Reference(TEXT)
        for ask in (LINE, ROUND, VALUES, LINE[:-1] + (3,), ('polynomial', 'out', 'sum', (), 'a', 2, 0)):
            self.assertEqual(honest_answer(BOOK, ask), ref.honest(ask))

    def test_one_part_otherwise(self):
        others = (None, True, False, 0, 1, 2, 3, 4, 5, -1, 7, '', 'f', 'x', 'out', (), [], {}, (0,), ((),), object(), 10 ** 299)
        for ask, right in ((LINE, {1: ['f'], 4: [2], 5: [2, 3]}), (ROUND, {1: ['f'], 2: ['sum'], 4: ['z'], 5: [2], 6: [4]}),
                           (VALUES, {1: ['out'], 3: [1]})):
            for at in range(len(ask)):
                for other in others:
                    if not any(other.__class__ is value.__class__ and other == value for value in right.get(at, [])):
                        self.bad(BOOK, ask[:at] + (other,) + ask[at + 1:])
                self.bad(BOOK, ask[:at] + ask[at + 1:])
                self.bad(BOOK, ask[:at] + (ask[at],) + ask[at:])
            self.bad(BOOK, ask + (0,))
            self.bad(BOOK, ask[:-1] + ([ask[-1]],))

    def test_True_is_no_degree_and_no_step(self):
        book = Book('prime 7\nlet f x = : x\nlet out = sum x sum y : f[x]*y+f[1]')
        for ask in (('polynomial', 'out', 'sum', (), 'x', 1, 0), ('polynomial', 'out', 'sum', (('x', 1),), 'y', 1, 1),
                    ('values', 'out', (('f', (1,)), ('f', (1,))), 2), ('line', 'f', (1,), (0,), 1, 3)):
            honest_answer(book, ask)
            for at, part in enumerate(ask):
                if part.__class__ is int and part in (0, 1):
                    self.bad(book, ask[:at] + (bool(part),) + ask[at + 1:])

    def test_points(self):
        for at in (2, 3):
            for point in ((3,), (3, 0, 0), (5, 0), (0, 5), (0, -1), (True, 0), (0, None), [3, 0], ((3, 0),), 30, '30'):
                self.bad(BOOK, LINE[:at] + (point,) + LINE[at + 1:])

    def test_known_names(self):
        for known in (
            (), (('x', 2),), (('y', 4), ('x', 2)), (('x', 2), ('y', 4), ('z', 1)), (('x', 2), ('x', 4)), (('x', 2), ('y', 5)),
            (('x', True), ('y', 4)), (('x', 2), ('y', None)), (['x', 2], ('y', 4)), [('x', 2), ('y', 4)], (('x', 2, 0), ('y', 4)),
            (('x',), ('y', 4)), ('x', 'y'), (2, 4), (('x', 2), (['y'], 4)), (('x', 2), (None, 4)), {'x': 2, 'y': 4}, (('x', 2), ('y', -1)),
        ):
            self.bad(BOOK, ROUND[:3] + (known,) + ROUND[4:])

    def test_calls(self):
        for calls in (
            (), VALUES[2][:2], VALUES[2] + VALUES[2][:1], VALUES[2][::-1], (('f', (3, 0)), ('f', (2, 1)), ('f', (1, 3))),
            (('f', (3, 0)), ('f', (3, 1)), ('f', (1, 2))), (('f', (3, 1)), ('f', (3, 1)), ('f', (1, 3))),
            (('f', (3, 0)), ('f', (3, 0)), ('f', (1, 3))), (('f', (3, 0)), ('f', (3, 1)), ('f', (0, 3))),
            (('f', (3, False)), ('f', (3, 1)), ('f', (1, 3))), (('f', (3, 0)), ('f', (3, True)), ('f', (1, 3))),
            (('f', (5, 0)), ('f', (5, 1)), ('f', (1, 5))), (('g', (3, 0)), ('f', (3, 1)), ('f', (1, 3))), list(VALUES[2]),
            (('f', (3, 0)), ('f', (3, 1)), ('f', (1, 3, 0))), (('f', (3, 0)), ('f', (3, 1)), ('f', (1,))), (['f', (3, 0)],) + VALUES[2][1:],
            (('f', [3, 0]),) + VALUES[2][1:], (('f',),) + VALUES[2][1:], (('f', (3, 0), 0),) + VALUES[2][1:], ((None, (3, 0)),) + VALUES[2][1:],
            ((['f'], (3, 0)),) + VALUES[2][1:], (3, 0), 'fff', None, (None,) * 3, (('f', None),) * 3, ((3, 0), (3, 1), (1, 3)),
        ):
            self.bad(BOOK, ('values', 'out', calls, 1))
        for residue in range(5):
            calls = (('f', (residue, 0)), ('f', (residue, 1)), ('f', (1, residue)))
            self.assertEqual(len(honest_answer(BOOK, ('values', 'out', calls, 1))), 3)

    def test_a_step_without_calls_asks_nothing(self):
        self.bad(BOOK, ('values', 'f', (), 5))
        self.bad(Book('prime 3\nlet out = : 1'), ('values', 'out', (), 0))

    def test_a_name_twice_in_a_call(self):
        book = Book('prime 7\nlet f x y = : x*y\nlet out = sum a sum b : f[a,a]+f[b,a]+f[3,b]')
        good = (('f', (2, 2)), ('f', (5, 2)), ('f', (3, 5)))
        self.assertEqual(honest_answer(book, ('values', 'out', good, 2)), (4, 3, 1))
        for at, point in ((0, (2, 3)), (0, (3, 2)), (1, (5, 3)), (1, (4, 2)), (2, (3, 4)), (2, (4, 5)), (0, (5, 5)), (1, (2, 5))):
            self.bad(book, ('values', 'out', good[:at] + (('f', point),) + good[at + 1:], 2))

    def test_at_any_residues(self):
        # The asks of another talk of this book, and at residues of no talk at all.
        for source, book in some_books(range(80), operators=2, calls=0.6):
            ref = Reference(book.text)
            for number, step in enumerate(steps_of(book)):
                name = step[1]
                parameters, operators = ref.functions[name][:2]
                point = residues(source, book.prime, len(parameters))
                if step[0] == 'line':
                    ask = ('line', name, point, residues(source, book.prime, len(point)), step[2], number)
                elif step[0] == 'round':
                    done = sum(other[:2] == ('round', name) for other in steps_of(book)[:number])
                    names = list(parameters) + [bound for word, bound in operators[:done] if word != 'low']
                    known = tuple(zip(names, residues(source, book.prime, len(names))))
                    ask = ('polynomial', name, step[2], known, step[3], step[4], number)
                else:
                    names = list(parameters) + [bound for word, bound in operators if word != 'low']
                    known = dict(zip(names, residues(source, book.prime, len(names))))
                    calls = tuple((called, tuple(known.get(part, part) for part in parts)) for called, parts in step[2])
                    ask = ('values', name, calls, number)
                    if calls == ():
                        self.bad(book, ask)
                        continue
                self.assertEqual(honest_answer(book, ask), ref.honest(ask), (book.text, ask))
                self.bad(book, ask[:-1] + (number + 100,))

    def test_powers_are_not_lowered(self):
        book = Book('prime 3\nlet f u = : u^3\nlet out = sum x sum y : x^3*y^4+f[x]*f[y]')
        self.assertEqual(honest_answer(book, ('polynomial', 'out', 'sum', (), 'x', 3, 0)), (0, 0, 0, 0 + 2))
        self.assertEqual(honest_answer(book, ('polynomial', 'out', 'sum', (('x', 2),), 'y', 4, 1)), (0, 0, 0, 2, 2))
        self.assertEqual(honest_answer(book, ('line', 'f', (0,), (1,), 3, 3)), (0, 0, 0, 1))
        self.assertEqual(honest_answer(book, ('line', 'f', (2,), (0,), 3, 3)), (2, 0, 0, 1))

    def test_noughts_behind(self):
        for body, poly in (('x-x', (0, 0)), ('x*0', (0, 0)), ('x^4*7-7*x^4', (0,) * 5), ('2+x-x', (2, 0))):
            book = Book(f'prime 11\nlet out = sum x : {body}')
            self.assertEqual(honest_answer(book, ('polynomial', 'out', 'sum', (), 'x', len(poly) - 1, 0)), poly)
        book = Book('prime 11\nlet f u = low u : 3\nlet g u = low u low u : u^3+1\nlet out = sum x : f[x]+g[x]')
        self.assertEqual(honest_answer(book, ('polynomial', 'out', 'sum', (), 'x', 1, 0)), (4, 1))


class Lucky(unittest.TestCase):
    def plain_books(self, seeds):
        for seed in seeds:
            source = numbers(seed)
            prime = source.choice((3, 3, 5, 7, 11, 1000003))
            operators = source.randint(1, 4) if prime > 5 else source.randint(1, 5)
            text = some_text(source, prime, 2, 1, operators=operators, words=('sum', 'low'), most=2)
            yield source, Book(text)

    def test_not_plain(self):
        for rest in ('all x : x', 'some x : x', 'sum x : f[x]', ': f[1]', 'sum x all y : 1'):
            book = Book('prime 5\nlet f x = : x\nlet out = ' + rest)
            for ask in (0, 1):
                talk = Talk(book, ask)
                raised = said_by(self, lucky_answer, {'talk': talk})
                self.assertIs(raised.__class__, NotPlain)
                self.assertIs(raised.value, book)

    def test_not_asked(self):
        book = Book('prime 5\nlet out = sum x : x')
        talk = Talk(book, 1)
        talk.hear(lucky_answer(talk))
        self.assertEqual(talk.ask, ('throw',))
        for wrong in (talk, Talk(Book('prime 5\nlet out = : 3'), 3), Talk(Book('prime 5\nlet out = : 3'), 4)):
            raised = said_by(self, lucky_answer, {'talk': wrong})
            self.assertIs(raised.__class__, BadAsk)
            self.assertEqual(raised.value, wrong.ask)

    def test_answers(self):
        wrongs = 0
        for source, book in self.plain_books(range(160)):
            prime = book.prime
            talk = Talk(book, source.randrange(prime))
            while talk.ask[0] not in ('over',):
                honest = honest_answer(book, talk.ask)
                right = right_claims(talk)[0]
                answer = lucky_answer(talk)
                self.assertEqual(answer, lucky_answer(talk=talk.copy()))
                if right:
                    self.assertEqual(answer, honest)
                elif prime < 1000:
                    wrongs += 1
                    self.assertEqual(len(agree_at(prime, honest, answer)), min(talk.ask[5], prime - 1), book.text)
                self.assertEqual(len(answer), talk.ask[5] + 1)
                talk.hear(answer)
                self.assertEqual(talk.ask, ('throw',), (book.text, answer))
                talk.throw(source.randrange(prime))
                if talk.ask == ('throw',):
                    break
        self.assertGreater(wrongs, 100)

    def test_low_at_all_residues(self):
        # The open claim of the round for low is wrong by each residue, low's name being at each one.
        for prime in (3, 5, 7):
            for body in ('3', 'x', 'x^2', 'x^4', 'x^4*x^4'):
                book = Book(f'prime {prime}\nlet out = sum x low x : {body.replace("3", "2") if prime == 3 else body}')
                degree = steps_of(book)[1][-1]
                for value in range(prime):
                    for throw in range(prime):
                        talk = Talk(book, value)
                        talk.hear(lucky_answer(talk))
                        talk.throw(throw)
                        honest = honest_answer(book, talk.ask)
                        answer = lucky_answer(talk)
                        if right_claims(talk) == (False,):
                            self.assertEqual(len(agree_at(prime, honest, answer)), min(degree, prime - 1))
                        talk.hear(answer)
                        self.assertEqual(talk.ask, ('throw',))

    def rows_let(self, talk):
        """How many rows of throws let the value, lucky answers being told."""
        if talk.ask[0] == 'over':
            return int(talk.ask == ('over', 'let'))
        talk.hear(lucky_answer(talk))
        many = 0
        for residue in range(talk.book.prime):
            branch = talk.copy()
            branch.throw(residue)
            many += self.rows_let(branch)
        return many

    def test_just_so_many(self):
        tried = 0
        for source, book in self.plain_books(range(200, 300)):
            self.assertTrue(is_plain(book))
            if book.prime ** throws_many(book) > 400:
                continue
            for value in range(min(book.prime, 11)):
                right = value == result_of(book)
                many = book.prime ** throws_many(book) if right else number_of(book)
                self.assertEqual(self.rows_let(Talk(book, value)), many, (book.text, value))
                tried += not right
        self.assertGreater(tried, 100)


class Judged(unittest.TestCase):
    def by_hand(self, book, value, answers, throws):
        talk = Talk(book, value)
        said = dict(answers)
        states = [talk.copy()]
        while talk.ask[0] != 'over':
            if talk.ask == ('throw',):
                talk.throw(throws[len(talk.throws)])
                states.append(talk.copy())
            else:
                answer = said.get((talk.step, talk.throws))
                talk.hear(honest_answer(book, talk.ask) if answer is None else answer)
        states.append(talk)
        return talk.ask, states

    def test_rows(self):
        ends = []
        for source, book in some_books(range(400, 520), operators=2, calls=0.5):
            prime = book.prime
            value = source.choice((result_of(book), source.randrange(prime)))
            throws = tuple(source.randrange(min(prime, 5)) for _ in range(throws_many(book)))
            rule = RuleTalk(book.text, value)
            answers = []
            # Some wrong answers that keep their checks, at the steps of this row, and some of other rows.
            while rule.ask()[0] != 'over':
                if rule.ask() == ('throw',):
                    rule.throw(throws[len(rule.throws)])
                    continue
                honest = honest_answer(book, rule.ask())
                answer = honest
                if source.random() < 0.4 and prime ** len(honest) < 3000:
                    answer = source.choice(keeping(rule, len(honest)) or [honest])
                    answers.append(((rule.at, tuple(rule.throws)), answer))
                rule.hear(answer)
            answers += [((at, (prime - 1,) * 9), (0,)) for at in range(len(steps_of(book)))]
            source.shuffle(answers)
            answers = tuple(answers)
            ask, states = self.by_hand(book, value, answers, throws)
            self.assertEqual(ask, rule.ask())
            self.assertEqual(judged(book, value, answers, throws), ask)
            ends.append(ask[1])
            for many in range(len(throws) + 1):
                talk = talk_of(book, value, answers, throws[:many])
                self.assertIs(talk.__class__, Talk)
                like = states[min(many, len(states) - 1)]
                if many >= len(states) - 1 or len(states[many].throws) < many:
                    like = states[-1]
                self.assertEqual((talk.ask, talk.step, talk.throws, talk.claims), (like.ask, like.step, like.throws, like.claims))
        self.assertGreater(min(ends.count('let'), ends.count('refused')), 20)

    def test_refused_ahead_of_the_last_throw(self):
        first = (((0, ()), (1, 1, 1)),)
        for throws in ((), (1,), (1, 2, 3, 4)):
            talk = talk_of(BOOK, result_of(BOOK), first, throws)
            self.assertEqual(talk.ask[0], 'over' if throws else 'polynomial')
            self.assertEqual(talk.throws, ())
        self.assertEqual(judged(BOOK, result_of(BOOK), first, ROW), ('over', 'refused', 0))

    def test_behind_the_last_throw(self):
        # Behind the only throw values are asked for; judged goes on to the end.
        book = Book('prime 5\ntable t 1 2\nlet f x = : t[x]\nlet out = sum a : f[a]')
        talk = talk_of(book, result_of(book), (), (3,))
        self.assertEqual(talk.ask, ('values', 'out', (('f', (3,)),), 1))
        self.assertEqual(judged(book, result_of(book), (), (3,)), ('over', 'let'))
        wrong = (((1, (3,)), (1,)),)
        self.assertEqual(talk_of(book, result_of(book), wrong, (3,)).ask, talk.ask)
        self.assertEqual(judged(book, result_of(book), wrong, (3,)), ('over', 'refused', 1))
        # A row without throws leaves the talk as it begins.
        empty = Book('prime 5\ntable t 1 2\nlet f x = : t[x]\nlet out = : f[4]')
        self.assertEqual(talk_of(empty, 0, (), ()).ask, ('values', 'out', (('f', (4,)),), 0))
        self.assertEqual(judged(empty, 0, (), ()), ('over', 'let'))
        self.assertEqual(judged(empty, 1, (), ()), ('over', 'refused', 0))

    def test_answers_of_any_length(self):
        book = Book('prime 5\ntable t 1 2\nlet out = sum x : t[x]*x')
        for answer, step in (((0, 3), 0), ((0, 3, 0, 0), 0), ((), 0), ((0, 3, 0), 1), ((3, 0, 2), 1), ((1, 3, 4), 0)):
            self.assertEqual(judged(book, 3, (((0, ()), answer),), (1,)), ('over', 'refused', step), answer)


class AllRows(unittest.TestCase):
    """All rows of throws of small books, counted one by one."""

    def small_books(self, seeds, words=('sum', 'all', 'some', 'low')):
        for seed in seeds:
            source = numbers(seed)
            prime = source.choice((3, 3, 5, 7))
            text = some_text(source, prime, 2, source.randint(1, 3), operators=2, calls=0.6, most=2, words=words, powers=(2,))
            try:
                book = Book(text)
            except BadBook:
                continue
            if prime ** throws_many(book) <= 400 and max([step[-1] for step in steps_of(book) if step[0] != 'parts'] or [0]) <= 4:
                yield source, book

    def test_right_is_let(self):
        for _, book in self.small_books(range(60)):
            for row in rows_of(book):
                self.assertEqual(judged(book, result_of(book), (), row), ('over', 'let'))

    def wrong_rows(self, source, book, talk, lies):
        """Of the rows that begin as the talk does, how many let the value; the teller hangs on all throws."""
        while talk.ask[0] not in ('over', 'throw'):
            talk.hear(self.some_lie(source, book, talk, lies))
        if talk.ask[0] == 'over':
            return int(talk.ask == ('over', 'let'))
        total = 0
        for residue in range(book.prime):
            branch = talk.copy()
            branch.throw(residue)
            total += self.wrong_rows(source, book, branch, lies)
        return total

    def some_lie(self, source, book, talk, lies):
        honest = honest_answer(book, talk.ask)
        if all(right_claims(talk)) and source.random() < 0.7:
            return honest
        best = honest
        for _ in range(lies):
            # The more residues agree with the honest answer, the more throws are lucky ones.
            answer = tuple(part if source.random() < 0.5 else source.randrange(book.prime) for part in honest)
            trial = talk.copy()
            trial.hear(answer)
            if trial.ask[:2] != ('over', 'refused'):
                best = answer
                if source.random() < 0.3:
                    break
        return best

    def test_wrong_is_let_seldom(self):
        seen = 0
        for source, book in self.small_books(range(100, 180)):
            for value in range(book.prime):
                if value == result_of(book):
                    continue
                many = self.wrong_rows(source, book, Talk(book, value), 40)
                self.assertLessEqual(many, number_of(book), (book.text, value))
                seen += many > 0
        self.assertGreater(seen, 30)


if __name__ == '__main__':
    unittest.main()
