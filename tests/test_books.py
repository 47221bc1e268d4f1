"""Books (point 6)."""

import copy
import unittest

from fewthrows.books import Book, calls_in, result_of, value_of
from fewthrows.degrees import steps_of, throws_many
from fewthrows.errors import BadBook, BadName, BadPoint
from fewthrows.tables import table_value
from tests.reference import Reference, some_text
from tests.support import (
    DEEP, NO_NAMES, NO_NUMBERS, Wrong, numbers, residues, said_by, try_by_position, try_order, try_wrong,
)

PRIMES = (3, 5, 7, 101, 1000003)
TEXT = 'prime 7\ntable v 1 2 3 4\nlet f x = sum y : v[x,y]*y\nlet g x w = : x*w+f[w]\nlet out = sum x : f[x]+x*g[1,x]'
BOOK = Book(TEXT)
OTHER_NAMES = NO_NAMES + ['x', 'y', 'w', 'vv', 'ff', 'o', 'prime', 'let', 'table', 'sum', TEXT]

CASES = [
    Wrong(value_of, {'book': BOOK, 'function': 'g', 'point': (3, 4)},
          {'function': (BadName, OTHER_NAMES), 'point': (BadPoint, NO_NUMBERS + [
              0, 1, (1,), (1, 2, 3), (0, 7), (7, 0), [1, 2], ((1, 2),), 'out', BOOK, (BOOK, 1), (3, 4, 5, 6)])}),
    Wrong(calls_in, {'book': BOOK, 'function': 'g'}, {'function': (BadName, OTHER_NAMES + ['v', BOOK])}),
]

HEAD = 'prime 7\ntable v 1 2 3 4\nlet f a b = : a*b\n'
OUT = '\nlet out = : 1'


def number_of_bad(text):
    """The number that BadBook tells of the text; None if it is a book."""
    try:
        Book(text)
    except BadBook as error:
        return error.value
    return None


class Arguments(unittest.TestCase):
    def test_each_alone(self):
        for case in CASES:
            try_wrong(self, case)

    def test_first_is_told(self):
        for case in CASES:
            try_order(self, case)

    def test_by_position_and_name(self):
        for case in CASES:
            try_by_position(self, case)
        self.assertEqual(Book(text=TEXT), Book(TEXT))
        self.assertEqual(result_of(book=BOOK), result_of(BOOK))

    def test_text_is_a_string(self):
        for value in [wrong for wrong in NO_NUMBERS if not isinstance(wrong, str)] + [0, 1, [TEXT], (TEXT,), BOOK, DEEP]:
            with self.assertRaises(BadBook) as caught:
                Book(value)
            self.assertIs(caught.exception.value.__class__, int)
            self.assertEqual(caught.exception.value, 0)

    def test_points_of_tables_and_functions(self):
        for name, many in (('v', 2), ('f', 1), ('g', 2), ('out', 0)):
            for length in range(4):
                point = (6,) * length
                if length == many:
                    self.assertEqual(value_of(BOOK, name, point), Reference(TEXT).value(name, point))
                else:
                    raised = said_by(self, value_of, {'book': BOOK, 'function': name, 'point': point})
                    self.assertIs(raised.__class__, BadPoint)
                    self.assertIs(raised.value, point)


class Lines(unittest.TestCase):
    def bad(self, number, *texts):
        for text in texts:
            with self.subTest(text=text[-80:]):
                self.assertEqual(number_of_bad(text), number)

    def good(self, *texts):
        for text in texts:
            with self.subTest(text=text[-80:]):
                self.assertIsNone(number_of_bad(text))

    def test_first_line(self):
        for line in (
            '', 'prime', 'prime ', 'prime 9', 'prime 2', 'prime 1', 'prime 0', 'prime -3', 'prime +3', 'prime 03',
            'prime 3 ', ' prime 3', 'prime  3', 'prime 3 5', 'Prime 3', 'prime 1000005', 'prime 1000033', 'prime 3.0',
            'prime 1000000007', 'prime x', 'primes 3', 'table v 1 2', 'prime\t3', 'prime 0x3', 'prime 00000000000000003',
        ):
            self.bad(1, line, line + OUT)
        self.good(*['prime ' + str(prime) + OUT for prime in PRIMES])

    def test_no_result(self):
        self.bad(2, 'prime 7')
        self.bad(3, 'prime 7\ntable v 1 2')
        self.bad(4, 'prime 7\ntable v 1 2\nlet f x = : x')

    def test_an_empty_line(self):
        self.bad(2, 'prime 7\n', 'prime 7\n\ntable v 1 2' + OUT)
        self.bad(3, 'prime 7' + OUT + '\n', 'prime 7\ntable v 1 2\n')

    def test_behind_the_result(self):
        for line in ('', 'table v 1 2', 'let out = : 1', 'let b = : 1', 'let f x = : x', 'prime 7', 'x'):
            self.bad(3, 'prime 7' + OUT + '\n' + line)
            self.bad(3, 'prime 7' + OUT + '\n' + line + '\nx')
        # The first bad line counts, wherever it stands.
        self.bad(2, 'prime 7\nlet out = : 7\ntable v 1 2')

    def test_once_first(self):
        self.bad(2, 'prime 7\nprime 7' + OUT)
        self.bad(3, 'prime 7\ntable v 1 2\nprime 7' + OUT)

    def test_tables(self):
        for many in range(140):
            text = 'prime 7\ntable v' + ' 6' * many + OUT
            if many in (2, 4, 8, 16, 32, 64):
                self.assertEqual(Book(text).tables, (('v', (6,) * many),))
            else:
                self.bad(2, text)
        for line in (
            'table', 'table v', 'table V 1 2', 'table ninelette 1 2', 'table  1 2', 'table 1 2', 'table v1 1 2',
            'table v 1 7', 'table v 7 1', 'table v -1 2', 'table v 01 2', 'table v +1 2', 'table v 1  2', 'table v  1 2',
            'table v 1 2 ', ' table v 1 2', 'table v 1 x', 'Table v 1 2', 'tables v 1 2', 'table v 1,2', 'table v 1 2.0',
            'table v 00 0', 'table v 1000000000 0', 'table v 1 10000000000000000000000',
        ):
            self.bad(2, 'prime 7\n' + line + OUT)
        self.good('prime 7\ntable abcdefgh 6 0' + OUT, 'prime 7\ntable z 0 0' + OUT,
                  'prime 1000003\ntable z 1000002 0' + OUT)
        self.bad(2, 'prime 1000003\ntable z 1000003 0' + OUT)

    def test_names_are_used_once(self):
        self.bad(3, 'prime 7\ntable v 1 2\ntable v 1 2' + OUT, 'prime 7\ntable v 1 2\nlet v x = : x' + OUT,
                 'prime 7\nlet f x = : x\nlet f x = : x' + OUT, 'prime 7\nlet f x = : x\ntable f 1 2' + OUT,
                 'prime 7\ntable out 1 2' + OUT, 'prime 7\nlet out x = : 1' + OUT)

    def test_how_many(self):
        for word, rest in (('table', '1 2'), ('let', 'x = : x')):
            lines = [f'{word} {letter} {rest}' for letter in 'abcdefghi']
            self.bad(10, '\n'.join(['prime 7'] + lines) + OUT)
            self.good('\n'.join(['prime 7'] + lines[:7]) + OUT)
        tables = [f'table {letter} 1 2' for letter in 'abcdefgh']
        functions = [f'let {letter} x = : x' for letter in 'ijklmno']
        mixed = [line for pair in zip(tables, functions + ['table h 1 2']) for line in pair][:-1]
        for lines in (tables + functions, functions + tables, mixed):
            text = '\n'.join(['prime 7'] + lines) + OUT
            self.assertEqual(len(Book(text)), 8)
            self.assertEqual(len(Book(text).tables), 8)
        self.bad(18, '\n'.join(['prime 7'] + tables + functions + ['let p x = : x']) + '\nlet q x = : x' + OUT)
        self.bad(18, '\n'.join(['prime 7'] + tables + functions + ['let p x = : x']) + OUT)
        self.bad(17, '\n'.join(['prime 7'] + tables + functions + ['table q 1 2']) + OUT)

    def test_lines_of_functions(self):
        for line in (
            'let', 'let f', 'let f x', 'let f x =', 'let f x = :', 'let f x = : ', 'let f x = :x', 'let f x : x',
            'let f x = x', 'let = : 1', 'let f x = sum : x', 'let f x = sum y z : x', 'let f x = : x x', 'let f x = : x ',
            'let  f x = : x', 'let f  x = : x', ' let f x = : x', 'let f x= : x', 'let f x x = : x', 'let f x y x = : x',
            'let F x = : 1', 'let f X = : 1', 'let ninelette x = : 1', 'let f ninelette = : 1', 'let f x1 = : 1',
            'let f x = y : x', 'let f x = max y : x', 'let f x = sum Y : x', 'let f x = sum x : x', 'let f x = all x : x',
            'let f x = some x : x', 'let f x = sum y sum y : x', 'let f x = sum y all y : x', 'let f x = low y : x',
            'let f x = low y sum y : x', 'let f x = sum y low z : x', 'let f x = : : x', 'let f x = = : x',
            'let f x = sum y : : x', 'let f 1 = : 1', 'let 1 x = : 1', 'let f x = sum ninelette : x', 'lets f x = : x',
            'let f x = low 1 : x', 'Let f x = : x', 'let f x = y sum : x', 'let f x = sum  : x', 'let f x = : =',
            'let f x y : =',
        ):
            self.bad(2, 'prime 7\n' + line + OUT, 'prime 7\n' + line)
        self.good(*['prime 7\n' + line + OUT for line in (
            'let f x = : x', 'let abcdefgh abcdefgi = sum abcdefgj : abcdefgi+abcdefgj', 'let f f = : f',
            'let f x = low x : x', 'let f x = low x low x low x : x', 'let f x = sum y low y low x : x',
            'let sum sum = all all some some low all sum low low low : sum+all*some-low',
            'let let table = sum prime : prime*table',
        )])

    def test_operators(self):
        names = 'abcdefghijklm'
        for many in range(14):
            ops = ' '.join(f'sum {name}' for name in names[:many])
            text = f'prime 7\nlet out = {ops} : 1' if ops else 'prime 7\nlet out = : 1'
            if many <= 12:
                self.assertEqual(Book(text).functions, (('out', (), tuple(('sum', n) for n in names[:many]), '1'),))
            else:
                self.bad(2, text)
        lows = ' '.join(['low x'] * 12)
        self.good(f'prime 7\nlet f x = {lows} : x' + OUT, f'prime 7\nlet out = sum x {lows[6:]} : x')
        self.bad(2, f'prime 7\nlet f x = {lows} low x : x' + OUT, f'prime 7\nlet out = sum x {lows} : x')


class Bodies(unittest.TestCase):
    def good(self, *bodies):
        for body in bodies:
            with self.subTest(body=body):
                self.assertIsNone(number_of_bad(HEAD + 'let g x y = sum z : ' + body + OUT))

    def bad(self, *bodies):
        for body in bodies:
            with self.subTest(body=body):
                self.assertEqual(number_of_bad(HEAD + 'let g x y = sum z : ' + body + OUT), 4)

    def test_forms(self):
        self.good('x', '0', '6', 'x+y', 'x-y', 'x*y', 'x^2', 'x^3', 'x^4', '(x)', '((x+y)*z)^2', 'v[x,y]', 'v[0,6]',
                  'f[x,x]', 'f[x,1]^4*2', 'x-y-z', 'x+y*z^2-6', '(f[x,y]-v[z,z])*(1-x)', '0^2', 'x*y*z', '2*3^4')
        self.bad('7', '8', '00', '01', '-1', '+1', 'x+', '+x', '-x', 'x-', '*x', 'x*', 'x**2', 'x^', 'x^1', 'x^5',
                 'x^0', 'x^22', 'x^2^2', 'x^x', 'x^-2', 'x^(2)', '^2', '()', '(x', 'x)', '(x))', '((x)', 'xy', 'x y', '2x',
                 'x2', 'x(y)', '(x)(y)', '(x)y', 'w', 'f', 'v', 'a', 'f[x]', 'f[x,y,z]', 'f[]', 'f[x,]', 'f[,x]', 'v[x]',
                 'v[x,y', 'v[x,y]]', 'v[[x,y]]', 'v[x+1,y]', 'v[x,(y)]', 'v[x,w]', 'v[7,x]', 'v[x,01]', 'v[x,f]', 'x[y]',
                 'x[y,z]', 'g[x,y]', 'out[x]', 'h[x,y]', 'v(x,y)', 'v[x y]', 'v[x;y]', 'x/y', 'x=y', 'X', 'x_', 'x.y', '1.0',
                 'v[f[x,y],x]', '(x+)', '(+x)', 'x,y', '[x]', '1e3', 'ninelette', 'v[x,-1]', 'x+-y', 'x--y', '%', ':', '=')

    def test_names_in_square_brackets(self):
        # The word is a table's, a function's and a parameter's: what stands behind it tells which.
        book = Book('prime 7\ntable v 1 2\nlet f v f = sum x : v[f]*v+f*x\nlet out = sum f all v : f[v,f]+v[f]*f')
        text = 'prime 7\ntable tab 1 2\nlet fa v f = sum x : tab[f]*v+f*x\nlet out = sum f all v : fa[v,f]+tab[f]*f'
        self.assertEqual(result_of(book), Reference(text).value('out', ()))
        self.assertEqual(calls_in(book, 'out'), (('f', ('v', 'f')),))

    def test_functions_further_down(self):
        self.assertEqual(number_of_bad('prime 7\nlet f x = : f[x]' + OUT), 2)
        self.assertEqual(number_of_bad('prime 7\nlet f x = : g[x]\nlet g x = : x' + OUT), 2)
        self.assertEqual(number_of_bad('prime 7\nlet f x = : v[x]\ntable v 1 2' + OUT), 2)
        self.assertIsNone(number_of_bad('prime 7\nlet g x = : x\ntable v 1 2\nlet f x = : g[x]+v[x]' + OUT))

    def test_signs(self):
        for many in (1, 2, 3, 198, 199, 200, 201, 202, 400):
            for body in ('x' + '+1' * ((many - 1) // 2), 'v[x,x]' + '*x' * ((many - 6) // 2), 'x^2' + '-0' * ((many - 3) // 2)):
                # Both even and odd lengths come up.
                self.assertIn(len(body), (many, many - 1, 6, 3))
                text = HEAD + f'let out = sum x low x : {body}'
                self.assertEqual(number_of_bad(text), None if len(body) <= 200 else 4, len(body))

    def test_brackets(self):
        for deep in range(14):
            for inner in ('x', 'v[x,y]', 'x+y*2'):
                for body in ('(' * deep + inner + ')' * deep, '(x)*' + '(' * deep + inner + ')' * deep + '^2+(y)'):
                    (self.good if deep <= 10 else self.bad)(body)
        # Side by side they may be more.
        self.good('+'.join(['(x)'] * 40), '(' * 9 + '(x)+(y)' + ')' * 9 + '*' + '(' * 10 + 'z' + ')' * 10)
        # Square brackets are none of them.
        self.good('(' * 10 + 'v[x,x]' + ')' * 10)

    def test_result_knows_no_names(self):
        for body in ('x', 'f[x,1]', 'v[1,x]'):
            self.assertEqual(number_of_bad(HEAD + 'let out = : ' + body), 4)
        self.assertIsNone(number_of_bad(HEAD + 'let out = : f[1,2]*v[3,4]+5'))


class TooGreatDegrees(unittest.TestCase):
    def test_rounds(self):
        # x^4 five times is 20, each all doubles: 160; with 40 more it is 200.
        def text(body, rest=''):
            return f'prime 3\nlet out = sum x all a all b all c : {body}{rest}'

        self.assertIsNone(number_of_bad(text('x^4*x^4*x^4*x^4*x^4*x^4')))
        self.assertEqual(number_of_bad(text('x^4*x^4*x^4*x^4*x^4*x^4*x')), 2)
        for degree in range(195, 205):
            body = f'({"*".join(["x^4"] * (degree // 16))})^4' + '*x' * (degree % 16)
            bad = number_of_bad(f'prime 3\nlet out = sum x : {body}')
            self.assertEqual(bad, 2 if degree > 199 else None, degree)

    def body(self, degree, name='x'):
        return f'({"*".join([name + "^4"] * (degree // 16))})^4' + ('*' + name) * (degree % 16)

    def test_lines(self):
        # Two calls: one line, of degree 100 + 99 or 100 + 100.
        for other in (98, 99, 100, 101):
            text = f'prime 3\nlet f x y = : {self.body(100)}-{self.body(other, "y")}\n'
            self.assertEqual(number_of_bad(text + 'let out = : f[1,0]-f[0,0]'), 2 if other > 99 else None)
            # One call has no line.
            self.assertIsNone(number_of_bad(text + 'let out = : f[1,0]'))
            self.assertEqual(number_of_bad(text + 'let g x = : f[x,0]\nlet out = : g[1]+f[0,0]'), 2 if other > 99 else None)

    def test_functions_that_nobody_calls(self):
        for degree in (199, 200, 3000):
            body = self.body(min(degree, 200)) if degree < 3000 else f'({self.body(196)})^4*x'
            text = f'prime 3\nlet f y = sum x : {body}\n'
            called = number_of_bad(text + 'let out = : f[1]')
            self.assertEqual(called, 2 if degree > 199 else None)
            self.assertIsNone(number_of_bad(text + 'let out = : 1'))
            self.assertIsNone(number_of_bad(text + 'let g x = : f[x]+f[1]\nlet out = : 1'))

    def test_least_line(self):
        far = self.body(200)
        text = f'prime 3\nlet f y = sum x : {far}\nlet g y = sum x : {far}\n'
        self.assertEqual(number_of_bad(text + 'let out = : g[1]'), 3)
        self.assertEqual(number_of_bad(text + 'let out = : g[1]+f[1]'), 2)
        self.assertEqual(number_of_bad(text + f'let out = sum x : {far}+g[1]'), 3)
        # A line that is not as told comes first, wherever it stands.
        self.assertEqual(number_of_bad(text + 'let out = : g[1]\n'), 5)
        self.assertEqual(number_of_bad(text + 'let out = : g[1]+7'), 4)
        self.assertEqual(number_of_bad(text + 'table v 1 2'), 5)

    def test_throws(self):
        # f has 12 rounds of its own and a line for each call but one.
        names = 'abcdefghijkl'
        sums = ' '.join(f'sum {name}' for name in names)

        def text(calls, more=''):
            called = '+'.join(f'f[{at}]' for at in range(calls))
            return f'prime 1009\nlet f x = {sums} : x\nlet out = {more} : {called}'.replace('=  :', '= :')

        self.assertEqual(throws_many(Book(text(29))), 40)
        self.assertEqual(number_of_bad(text(30)), 3)
        self.assertEqual(throws_many(Book(text(28, 'sum a'))), 40)
        self.assertEqual(number_of_bad(text(28, 'sum a sum b')), 3)
        # Degrees come ahead of throws.
        wide = text(30).replace(': x', f': {self.body(200)}')
        self.assertEqual(number_of_bad(wide), 2)
        # In functions that nobody calls they do not count.
        self.assertIsNone(number_of_bad(text(30).replace('let out =', 'let g x =') + OUT))


class Attributes(unittest.TestCase):
    def test_parts(self):
        text = 'prime 7\nlet f a b = low a sum c : a*b\ntable v 1 2\nlet g x = : v[x]\ntable w 0 6 5 4' + OUT
        book = Book(text)
        self.assertEqual(book.text, text)
        self.assertIs(book.prime.__class__, int)
        self.assertEqual(book.prime, 7)
        self.assertEqual(book.tables, (('v', (1, 2)), ('w', (0, 6, 5, 4))))
        self.assertEqual(book.functions, (
            ('f', ('a', 'b'), (('low', 'a'), ('sum', 'c')), 'a*b'), ('g', ('x',), (), 'v[x]'), ('out', (), (), '1')))
        for name in ('text', 'prime', 'tables', 'functions'):
            self.assertIn(name, vars(book))

    def test_len_and_in(self):
        self.assertEqual(len(BOOK), 3)
        self.assertEqual(len(Book('prime 3' + OUT)), 1)
        self.assertEqual([name in BOOK for name in ('v', 'f', 'g', 'out')], [True] * 4)
        for value in OTHER_NAMES:
            self.assertIs(value in BOOK, False)

    def test_equal(self):
        self.assertTrue(BOOK == Book(TEXT))
        self.assertFalse(BOOK != Book(TEXT))
        self.assertEqual(BOOK, copy.deepcopy(BOOK))
        other = Book(TEXT.replace('1 2 3 4', '1 2 3 5'))
        for value in [other, TEXT, (TEXT,), None, 0, True, object(), BOOK.text, BOOK.functions, [BOOK]]:
            self.assertFalse(BOOK == value)
            self.assertTrue(BOOK != value)
            self.assertFalse(value == BOOK)
        # Books that mean the same are unlike if their texts are.
        self.assertNotEqual(Book('prime 3\nlet a = : 1+1'), Book('prime 3\nlet a = : 2'))


class Meaning(unittest.TestCase):
    def test_against_reference(self):
        for seed in range(150):
            source = numbers(seed)
            prime = source.choice(PRIMES)
            text = some_text(source, prime, source.randint(1, 8), source.randint(1, 5), operators=2, most=source.choice((1, 3)))
            ref = Reference(text)
            if number_of_bad(text) is not None:
                continue
            book = Book(text)
            self.assertEqual(book.tables, tuple(ref.tables.items()))
            self.assertEqual(book.functions, tuple((name,) + line[:3] for name, line in ref.functions.items()))
            self.assertEqual(result_of(book), ref.value('out', ()), text)
            self.assertIs(result_of(book).__class__, int)
            self.assertEqual(result_of(book), value_of(book, 'out', ()))
            for name in (*ref.tables, *ref.functions):
                many = len(ref.functions[name][0]) if name in ref.functions else len(ref.tables[name]).bit_length() - 1
                for point in (residues(source, prime, many), (0,) * many, (1,) * many):
                    self.assertEqual(value_of(book, name, point), ref.value(name, point), (text, name, point))
            for name in ref.functions:
                self.assertEqual(calls_in(book, name), ref.calls(name), text)

    def test_operators(self):
        for prime in PRIMES:
            low, high = 2, prime - 1
            for word, value in (('sum', low + high), ('all', low * high), ('some', 1 - (1 - low) * (1 - high))):
                book = Book(f'prime {prime}\ntable v {low} {high}\nlet out = {word} x : v[x]')
                self.assertEqual(result_of(book), value % prime)
            book = Book(f'prime {prime}\nlet f x = low x : x^3+{low}\nlet out = : f[0]')
            for at in (0, 1, 2, prime - 1):
                value = (1 - at) * low + at * (1 + low)
                self.assertEqual(value_of(book, 'f', (at,)), value % prime)

    def test_first_operator_is_outermost(self):
        # sum all: (0 + 1) * .. unlike all sum.
        one = Book('prime 101\ntable v 1 2 3 4\nlet out = sum x all y : v[x,y]')
        other = Book('prime 101\ntable v 1 2 3 4\nlet out = all y sum x : v[x,y]')
        self.assertEqual([result_of(one), result_of(other)], [1 * 2 + 3 * 4, (1 + 3) * (2 + 4)])

    def test_sequence_of_signs(self):
        for body, value in (('6-2-1', 3), ('6-(2-1)', 5), ('2+3*4', 14), ('(2+3)*4', 20), ('2*3^2', 18), ('(2*3)^2', 36),
                            ('2^4-3^3', -11), ('1-2*3-4', -9), ('2^2*3^2', 36), ('9-8+7', 8), ('9-(8+7)', -6)):
            for prime in (101, 1000003):
                self.assertEqual(result_of(Book(f'prime {prime}\nlet a = : {body}')), value % prime)

    def test_tables_beyond_places(self):
        source = numbers(8)
        for prime in PRIMES:
            for many in range(1, 7):
                table = residues(source, prime, 2 ** many)
                names = 'abcdef'[:many]
                line = f"let f {' '.join(names)} = : v[{','.join(names)}]"
                book = Book(f"prime {prime}\ntable v {' '.join(map(str, table))}\n{line}" + OUT)
                for point in (residues(source, prime, many), (1,) * many, (0,) * many, (0, 1, 2, 1, 0, 2)[:many]):
                    self.assertEqual(value_of(book, 'v', point), table_value(prime, table, point))
                    self.assertEqual(value_of(book, 'f', point), table_value(prime, table, point))

    def test_calls(self):
        book = Book('prime 7\ntable v 1 2\nlet f x = : x\nlet g x y = : x*y\n'
                    'let h x = sum z : (g[z,1]-v[x])*f[x]^2+g[1,z]*f[x]+f[1]*g[z,1]\nlet out = : h[2]+f[2]+v[0]+h[2]')
        self.assertEqual(calls_in(book, 'h'), (('g', ('z', 1)), ('f', ('x',)), ('g', (1, 'z')), ('f', (1,))))
        self.assertEqual(calls_in(book, 'out'), (('h', (2,)), ('f', (2,))))
        self.assertEqual([calls_in(book, name) for name in 'fg'], [(), ()])
        self.assertIs(calls_in(book, 'h').__class__, tuple)

    def test_many_places(self):
        # Twelve operators have 4096 places.
        names = 'abcdefghijkl'
        for word, body, value in (('sum', '+'.join(names), 4096 * 6), ('some', '*'.join(names), 1),
                                  ('all', '1+' + '*'.join(names), 2), ('all', '*'.join(names), 0)):
            operators = ' '.join(f'{word} {name}' for name in names)
            book = Book(f'prime 1000003\nlet f x = {operators} : {body}' + OUT)
            self.assertEqual(value_of(book, 'f', (5,)), value)
        self.assertEqual(len(steps_of(Book(f"prime 5\nlet out = {' '.join('sum ' + n for n in names)} : 1"))), 13)


if __name__ == '__main__':
    unittest.main()
