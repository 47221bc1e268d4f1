"""Degrees, steps, numbers of books (points 7 and 3 (b))."""

import unittest

from fewthrows.books import Book
from fewthrows.degrees import (
    degree_in, is_plain, number_along, number_of, round_degrees, steps_of, throws_many, told_many, worst_way,
)
from fewthrows.errors import BadBook, BadName, BadWay
from tests.reference import Reference, some_text
from tests.support import NO_NAMES, NO_NUMBERS, Wrong, numbers, said_by, try_by_position, try_order, try_wrong

TWICE = Book('prime 7\ntable t 1 2 3 4\nlet f x y = sum z : t[x,z]*t[z,y]\nlet out = sum a : f[a,0]*f[a,1]')
WAY = (('out', 0), ('f', 1))
NO_FUNCTIONS = NO_NAMES + ['t', 'x', 'z', 'g', 'F', 'ff', TWICE]
NO_WAYS = NO_NUMBERS + [
    0, (), 'out', ('out', 0), (('out', 0),), [('out', 0), ('f', 1)], (['out', 0], ('f', 1)), (('out', 0), ['f', 1]),
    (('out', False), ('f', 1)), (('out', 0), ('f', True)), (('out', 0), ('f', 2)), (('out', 0), ('f', -1)),
    (('out', 1), ('f', 1)), (('out', 0), ('out', 0)), (('f', 1),), (('f', 1), ('out', 0)), (('out', 0), ('f', '1')),
    (('out', 0), ('f', 1), ('f', 1)), (('out', 0), ('f', 1), ('t', 0)), (('out', 0), ('t', 0)), (('out', 0), ('f', 1, 0)),
    (('out', 0), ('f',)), (('out', 0), 'f1'), (('out', 0), (1, 'f')), (('out', 0), ('f', 1), ()), (('out', 0), ('f', None)),
    ((0, 'out'), ('f', 1)), ((None, 0), ('f', 1)), ((['out'], 0), ('f', 1)), (('out', 0), ('f', 10 ** 299)), TWICE,
    (TWICE, 0), ((TWICE, 0), ('f', 1)), (('out', 0.0), ('f', 1)),
]

CASES = [
    Wrong(degree_in, {'book': TWICE, 'function': 'f', 'name': 'y'},
          {'function': (BadName, NO_FUNCTIONS), 'name': (BadName, NO_NAMES + ['z', 'a', 'f', 't', 'xy', '', ('x', 'y'), TWICE])}),
    Wrong(round_degrees, {'book': TWICE, 'function': 'f'}, {'function': (BadName, NO_FUNCTIONS)}),
    Wrong(number_along, {'book': TWICE, 'way': WAY}, {'way': (BadWay, NO_WAYS)}),
]
ALONE = (steps_of, throws_many, told_many, number_of, worst_way, is_plain)


def made(text):
    """The book of the text; None if it has too great degrees or too many throws."""
    try:
        return Book(text)
    except BadBook:
        return None


def some_books(seeds, **more):
    """Books, and what else is known of them."""
    for seed in seeds:
        source = numbers(seed)
        prime = source.choice((3, 5, 7, 101, 1000003))
        text = some_text(source, prime, source.randint(1, 4), source.randint(1, 6), **more)
        book = made(text)
        if book is not None:
            yield book, Reference(text)


class Arguments(unittest.TestCase):
    def test_each_alone(self):
        for case in CASES:
            try_wrong(self, case)

    def test_first_is_told(self):
        for case in CASES:
            try_order(self, case)

    def test_by_position_and_name(self):
        for case in CASES:
            try_by_position(self, case)
        for function in ALONE:
            self.assertEqual(function(TWICE), function(book=TWICE))

    def test_results_of_calls_with_nothing_to_tell(self):
        book = Book('prime 7\nlet f x = : 1\nlet out = : 3')
        self.assertEqual([degree_in(book, 'f', 'x'), round_degrees(book, 'f'), round_degrees(book, 'out')], [0, (), ()])
        self.assertEqual([steps_of(book), throws_many(book), told_many(book)], [(('parts', 'out', ()),), 0, 0])
        self.assertEqual([number_of(book), worst_way(book), is_plain(book)], [0, (('out', 0),), True])
        raised = said_by(self, degree_in, {'book': book, 'function': 'out', 'name': 'x'})
        self.assertEqual((raised.__class__, raised.value), (BadName, 'x'))


class Degrees(unittest.TestCase):
    HEAD = 'prime 7\ntable t 1 2 3 4\nlet g a b = low a : a^3*b^2\nlet h a = all b : a+b\n'

    def degrees(self, operators, body):
        text = f'{self.HEAD}let f x y = {operators}: {body}\nlet out = : 1'
        book = Book(text)
        found = (degree_in(book, 'f', 'x'), degree_in(book, 'f', 'y'))
        for degree in found:
            self.assertIs(degree.__class__, int)
        return found

    def test_bodies(self):
        for body, degrees in (
            ('1', (0, 0)), ('x', (1, 0)), ('x*y', (1, 1)), ('x^4', (4, 0)), ('(x*y^2)^3', (3, 6)), ('x+x', (1, 0)),
            ('x-x', (1, 0)), ('x^2-y+x*y^3', (2, 3)), ('t[x,x]', (2, 0)), ('t[x,y]', (1, 1)), ('t[1,0]', (0, 0)),
            ('t[1,y]^2', (0, 2)), ('g[x,y]', (1, 2)), ('g[y,x]', (2, 1)), ('g[x,x]', (3, 0)), ('g[1,x]', (2, 0)),
            ('g[x,2]*g[x,2]', (2, 0)), ('h[x]', (2, 0)), ('h[x]^2*h[y]+x^4*y^3', (4, 3)), ('0*x^4', (4, 0)),
            ('(x+y^2)*(y-x^3)', (4, 3)), ('2^4', (0, 0)), ('x*x*x', (3, 0)),
        ):
            self.assertEqual(self.degrees('', body), degrees, body)

    def test_operators(self):
        for operators, degrees in (
            ('sum z ', (3, 1)), ('all z ', (6, 2)), ('some z ', (6, 2)), ('low x ', (1, 1)), ('low y ', (3, 1)),
            ('all z some w ', (12, 4)), ('all z low x ', (2, 2)), ('low x all z ', (1, 2)), ('low x low y ', (1, 1)),
            ('sum z low z ', (3, 1)), ('low x all z low x ', (1, 2)), ('all z low y low x some w ', (2, 2)),
        ):
            self.assertEqual(self.degrees(operators, 'x^3*y'), degrees, operators)
        # Where there is nothing to lower, the degree is 0.
        self.assertEqual(self.degrees('low x low y ', '1'), (0, 0))
        self.assertEqual(self.degrees('low x ', 'y^2'), (0, 2))

    def test_rounds(self):
        for operators, body, degrees in (
            ('', 'x', ()), ('sum z', 'z^3*x', (3,)), ('sum z low z', 'z^3', (1, 3)), ('sum z low z low z', 'z^3', (1, 1, 3)),
            ('all z all w', 'z*w', (2, 1)), ('some z sum w', 'z^2*w^3', (2, 3)), ('low x all z low x', 'x^3*z', (2, 1, 3)),
            ('sum z sum w', '1', (0, 0)), ('low x', '1', (0,)), ('sum z low x all w low z', 'z^4*x*w', (2, 2, 1, 4)),
        ):
            book = Book(f"{self.HEAD}let f x y = {operators + ' ' if operators else ''}: {body}\nlet out = : 1")
            self.assertEqual(round_degrees(book, 'f'), degrees)
            self.assertIs(round_degrees(book, 'f').__class__, tuple)

    def test_against_reference(self):
        for book, ref in some_books(range(150)):
            for name, (parameters, operators, _, _) in ref.functions.items():
                self.assertEqual([degree_in(book, name, part) for part in parameters],
                                 [ref.degree(name, part) for part in parameters], ref.text)
                self.assertEqual(round_degrees(book, name), ref.rounds(name), ref.text)

    def test_great_degrees_that_nobody_calls(self):
        lines = [f'let {name} x = all y all z : {body}' for name, body in
                 (('a', '(x^4)^4'), ('b', 'a[x]^4'), ('c', 'b[x]^4'), ('d', 'c[x]^4'), ('e', 'd[x]^4'))]
        book = Book('\n'.join(['prime 5'] + lines + ['let out = : 1']))
        self.assertEqual(degree_in(book, 'e', 'x'), 64 * 16 ** 4)


class Steps(unittest.TestCase):
    def test_against_reference(self):
        many = {'line': 0, 'round': 0, 'parts': 0}
        for book, ref in some_books(range(200, 400), operators=2, calls=0.7):
            steps = ref.steps()
            self.assertEqual(steps_of(book), steps, ref.text)
            for step in steps:
                many[step[0]] += 1
            self.assertEqual(throws_many(book), sum(step[0] != 'parts' for step in steps))
            told = sum(len(step[2]) if step[0] == 'parts' else step[-1] + 1 for step in steps)
            self.assertEqual(told_many(book), told)
        self.assertGreater(min(many.values()), 50)

    def test_claims_of_several_bodies(self):
        book = Book('prime 7\nlet f x y = : x+y^2\nlet g x = sum a : f[x,a]+f[a,1]\nlet k x = : f[x,x]\n'
                    'let out = : g[1]*f[0,2]+g[2]*f[0,2]+f[2,0]')
        self.assertEqual(steps_of(book), (
            ('parts', 'out', (('g', (1,)), ('f', (0, 2)), ('g', (2,)), ('f', (2, 0)))),
            ('line', 'g', 1), ('round', 'g', 'sum', 'a', 2), ('parts', 'g', (('f', ('x', 'a')), ('f', ('a', 1)))),
            ('line', 'f', 3), ('line', 'f', 3), ('line', 'f', 3), ('parts', 'f', ())))
        self.assertEqual(worst_way(book), (('out', 0), ('f', 0)))
        # Claims 0 and 1 of f are those of out, 2 and 3 those of g.
        for way, factors in (
            ((('out', 0), ('f', 0)), (4, 4, 4)), ((('out', 0), ('f', 1)), (4, 4, 4)),
            ((('out', 0), ('g', 0), ('f', 2)), (6, 5, 4, 4)), ((('out', 0), ('g', 1), ('f', 2)), (6, 5, 4, 4)),
            ((('out', 0), ('g', 0), ('f', 3)), (6, 5, 4)), ((('out', 0), ('g', 1), ('f', 3)), (6, 5, 4)),
        ):
            caught = 7 ** (5 - len(factors))
            for factor in factors:
                caught *= factor
            self.assertEqual(number_along(book, way), 7 ** 5 - caught)
        for way in ((('out', 0), ('f', 2)), (('out', 0), ('g', 0), ('f', 0)), (('out', 0), ('g', 0)), (('out', 0), ('g', 2), ('f', 2)),
                    (('out', 0), ('k', 0), ('f', 4)), (('out', 0), ('g', 0), ('f', 2), ('f', 0))):
            raised = said_by(self, number_along, {'book': book, 'way': way})
            self.assertIs(raised.__class__, BadWay)
            self.assertIs(raised.value, way)

    def test_equal_values_are_unlike_calls(self):
        # f[x] and f[1] are two calls, though x may be 1; the same call twice is one.
        book = Book('prime 7\nlet f x = : x\nlet out = sum x : f[x]*f[1]*f[x]*f[x]')
        self.assertEqual(steps_of(book)[1:3], (('parts', 'out', (('f', ('x',)), ('f', (1,)))), ('line', 'f', 1)))


class Numbers(unittest.TestCase):
    def test_ways(self):
        lengths = set()
        for book, ref in some_books(range(400, 640), operators=1, calls=0.7):
            ways = ref.ways()
            if len(ways) > 200:
                continue
            lengths |= {len(way) for way in ways}
            along = {way: ref.along(way) for way in ways}
            for way, number in along.items():
                self.assertEqual(number_along(book, way), number, (ref.text, way))
            best = max(along.values())
            self.assertEqual(number_of(book), best, ref.text)
            self.assertEqual(worst_way(book), min(way for way in ways if along[way] == best), ref.text)
            self.assertIs(worst_way(book).__class__, tuple)
        self.assertGreaterEqual(lengths, {1, 2, 3, 4})

    def test_degrees_above_the_prime(self):
        # At most p - 1 throws are lucky ones.
        for prime, body, number in ((3, 'x^4', 2), (3, 'x^2', 2), (3, 'x', 1), (3, '1', 0), (5, 'x^4*x', 4), (5, 'x^3', 3)):
            self.assertEqual(number_of(Book(f'prime {prime}\nlet out = sum x : {body}')), number)

    def test_ways_cut_short_and_longer(self):
        for book, ref in some_books(range(640, 700), operators=1, calls=0.7):
            for way in ref.ways()[:20]:
                wrong = [way[:-1], way[1:], way + (way[-1],), way + (('out', 0),), way[::-1] if len(way) > 1 else (),
                         way[:-1] + ((way[-1][0], way[-1][1] + 40),), list(way), tuple(map(list, way))]
                for value in wrong:
                    raised = said_by(self, number_along, {'book': book, 'way': value})
                    self.assertIs(raised.__class__, BadWay)
                    self.assertIs(raised.value, value)

    def test_very_many_ways(self):
        # 8 functions, each with several calls of the next one: the ways are far too many to go through.
        lines = ['let a x = : x']
        for below, name in zip('abcdef', 'bcdefg'):
            lines.append(f"let {name} x = : {'+'.join(f'{below}[{at}]' for at in 'x0123')}")
        book = Book('\n'.join(['prime 101'] + lines + ['let out = : g[1]+g[2]+g[3]+g[4]+g[5]']))
        self.assertEqual(throws_many(book), 28)
        self.assertEqual(worst_way(book), (('out', 0),) + tuple((name, 0) for name in 'gfedcba'))
        self.assertEqual(number_of(book), 101 ** 28 - 100 ** 28)

    def test_plain(self):
        for rest, plain in (
            (': 1', True), ('sum x : x', True), ('sum x low x : x', True), ('all x : x', False), ('some x : x', False),
            ('sum x all y : x', False), ('sum x : t[x]', True), ('sum x : f[x]', False), (': f[1]', False),
            ('sum x low x sum y low x low y : x*y', True), ('sum x low x some y : x', False),
        ):
            book = Book(f'prime 7\ntable t 1 2\nlet f x = all y : x\nlet out = {rest}')
            self.assertIs(is_plain(book), plain)


if __name__ == '__main__':
    unittest.main()
