"""What the document promises over the whole program (points 2, 3 and 19)."""

import itertools
import unittest

from fewthrows.books import Book, result_of, value_of
from fewthrows.circuits import Circuit, circuit_book, gate_values
from fewthrows.counts import passes
from fewthrows.degrees import number_of, throws_many
from fewthrows.desk import Desk
from fewthrows.errors import BadPrime, BadResidue
from fewthrows.games import greatest_answers, greatest_passes
from fewthrows.journals import journal, read_journal
from fewthrows.lists import lets_pile, pile_value
from fewthrows.machines import Machine, looked_at, plain_run, run_cells
from fewthrows.polynomials import value_at
from fewthrows.products import chain_product, lets_chain, lets_vector, matrix_product, vectors_letting
from fewthrows.sayings import Saying, full_lowers, is_true, least_lowers, saying_book
from fewthrows.stores import cells_told, plain_answers
from fewthrows.streams import Watch, changed_book, knowing_answers, shows_knowing
from fewthrows.tables import folded_table, table_value
from fewthrows.talks import Talk
from fewthrows.tellers import honest_answer, judged, lucky_answer
from tests.support import numbers, residues, said_by


class Roads(unittest.TestCase):
    """One claim, checked in all ways: that the products of two pairs of residues add up to a value."""

    def roads(self, prime, left, right):
        """For a claimed value whether it is let, by each road, at some throws."""
        table = ' '.join(map(str, left)) + '\ntable w ' + ' '.join(map(str, right))
        book = Book(f'prime {prime}\ntable u {table}\nlet out = sum x : u[x]*w[x]')
        circuit = Circuit(f'prime {prime}\ninputs {left[0]} {left[1]} {right[0]} {right[1]}\nlayer *0,2 *1,3\nlayer +0,1')
        one, other = (left,), ((right[0],), (right[1],))
        empty = Book(f'prime {prime}\ntable u 0 0\ntable w 0 0\nlet out = sum x : u[x]*w[x]')
        changes = [('u', (at,), part) for at, part in enumerate(left)] + [('w', (at,), part - prime) for at, part in enumerate(right)]
        rows = [f'set 0 {left[0]}', f'set 1 {right[0]}', 'times 2 0 1', f'set 0 {left[1]}', f'set 1 {right[1]}', 'times 3 0 1', 'add 2 2 3', 'set 0 0', 'keep 2 0']
        machine = Machine('\n'.join([f'prime {prime}', 'places 1'] + rows))
        return book, circuit, one, other, empty, changes, machine

    def kept(self, empty, changes, book, value, throw):
        """The end of a kept talk about the stream of changes, with honest answers where they keep the check."""
        watches = [Watch(empty, (throw,)) for _ in range(2)]
        for at, change in enumerate(changes):
            watches[at % 2].change(*change)
        kept = watches[0].joined(watches[1]).talk(value)
        kept.hear(honest_answer(book, kept.ask))
        return kept.ask

    def test_one_claim(self):
        for seed in range(40):
            source = numbers(seed)
            prime = source.choice((3, 5, 101, 1000003))
            left, right = residues(source, prime, 2), residues(source, prime, 2)
            book, circuit, one, other, empty, changes, machine = self.roads(prime, left, right)
            true = (left[0] * right[0] + left[1] * right[1]) % prime
            throw = source.randrange(prime)
            self.assertEqual(result_of(book), true)
            self.assertEqual(gate_values(circuit)[-1], (true,))
            self.assertEqual(result_of(Book(circuit_book(circuit))), true)
            self.assertEqual(matrix_product(prime, one, other), ((true,),))
            self.assertEqual(chain_product(prime, (one, other, ((1,),))), ((true,),))
            self.assertEqual(changed_book(empty, tuple(changes)), book)
            word, run = plain_run(machine, (0,), 60)
            self.assertEqual((word, run[2]), ('ended', ((true, 1),)))
            self.assertEqual((looked_at(machine, (0,), run), run_cells(machine, (0,), run, throw, 1)), (('let',), ('let',)))
            circled = Book(circuit_book(circuit))
            row = residues(source, prime, throws_many(circled))
            for value in {true, (true + 1) % prime, source.randrange(prime)}:
                right_one = value == true
                self.assertEqual(judged(book, value, (), (throw,)) == ('over', 'let'), right_one)
                self.assertEqual(judged(circled, value, (), row) == ('over', 'let'), right_one)
                self.assertEqual(self.kept(empty, changes, book, value, throw) == ('over', 'let'), right_one)
                self.assertIs(lets_vector(prime, one, other, ((value,),), (1,)), right_one)
                self.assertIs(lets_chain(prime, (one, other), ((value,),), (prime - 1,)), right_one)
                self.assertEqual(vectors_letting(prime, one, other, ((value,),)), prime if right_one else 1)
                told = (run[0], run[1], ((value, 1),))
                self.assertEqual(looked_at(machine, (0,), told) == ('let',), right_one)

    def test_by_tables_texts_and_folding(self):
        for seed in range(30):
            source = numbers(seed)
            prime = source.choice((3, 5, 7, 101, 1000003))
            table = residues(source, prime, 8)
            book = Book(f'prime {prime}\ntable t {" ".join(map(str, table))}\nlet f x y z = low x low y low z : t[x,y,z]\nlet out = sum x sum y sum z : f[x,y,z]')
            point = residues(source, prime, 3)
            folded = table
            for residue in point:
                folded = folded_table(prime, folded, residue)
            self.assertEqual(folded, (table_value(prime, table, point),))
            self.assertEqual(folded, (value_of(book, 't', point),))
            self.assertEqual(folded, (value_of(book, 'f', point),))
            self.assertEqual(result_of(book), sum(table) % prime)

    def test_sayings_and_books(self):
        for text in ('all x some y : (x|y)&!(x&y)', 'some y all x : x&y', 'all a some b all c : a&b|!c', 'some x : x&!x', 'all q : q|!q'):
            saying = Saying(text)
            for prime in (3, 101):
                for lowers in (full_lowers(saying), least_lowers(saying, 4)):
                    book = Book(saying_book(saying, prime, lowers))
                    value = int(is_true(saying))
                    self.assertEqual(result_of(book), value)
                    row = residues(numbers(3), prime, throws_many(book))
                    self.assertEqual(judged(book, value, (), row), ('over', 'let'))
                    self.assertEqual(judged(book, 1 - value, (), row)[:2], ('over', 'refused'))


class Guarantees(unittest.TestCase):
    TEXTS = ['prime 3\ntable t 1 2\nlet out = sum x : t[x]^2', 'prime 5\ntable t 1 2 0 4\nlet out = sum x sum y : t[x,y]', 'prime 3\ntable t 0 2\nlet out = sum x low x : t[x]*x']

    def test_right_is_let_wrong_just_so_often(self):
        for text in self.TEXTS:
            book = Book(text)
            rows = book.prime ** throws_many(book)
            for value in range(book.prime):
                answers = greatest_answers(book, value)
                if value == result_of(book):
                    self.assertEqual(passes(book, value, ()), rows)
                    self.assertEqual(greatest_passes(book, value), rows)
                else:
                    self.assertEqual(passes(book, value, ()), 0)
                    self.assertEqual(passes(book, value, answers), number_of(book))
                    self.assertEqual(self.lucky_rows(book, value), number_of(book))

    def lucky_rows(self, book, value):
        """How many rows of throws let the value, if the teller tells lucky answers."""
        let = 0
        for row in itertools.product(range(book.prime), repeat=throws_many(book)):
            talk = Talk(book, value)
            for residue in row:
                talk.hear(lucky_answer(talk))
                talk.throw(residue)
            let += talk.ask == ('over', 'let')
        return let

    def test_any_let_of_a_desk_is_never_passed(self):
        # One of two values is wrong; both have throws of their own.
        book = Book(self.TEXTS[0])
        value = (result_of(book) + 1) % 3
        desk = Desk()
        desk.do(('lay', 'b', book.text))
        desk.do(('begin', 'k', 'b', value))
        desk.do(('begin', 'm', 'b', result_of(book)))
        most = greatest_passes(book, value) * passes(book, result_of(book), ())
        self.assertEqual(desk.any_let(('k', 'm')), (most, 9))
        desk.do(('branch', 'k', 'n'))
        self.assertEqual(desk.all_let(('k', 'n')), (greatest_passes(book, value) ** 2, 9))

    def test_there_and_back(self):
        desk = Desk()
        book = Book(self.TEXTS[1])
        desk.do(('lay', 'b', book.text))
        desk.do(('begin', 'k', 'b', result_of(book)))
        while desk.talk_at('k').ask[0] != 'over':
            desk.do(('throw', 'k', 3) if desk.talk_at('k').ask == ('throw',) else ('honest', 'k'))
        desk.mark('end')
        stands = []
        while desk.deeds:
            stands.append((journal(desk), desk.talks))
            self.assertEqual(journal(read_journal(journal(desk))), journal(desk))
            desk.back(1)
        for text, talks in reversed(stands):
            desk.on(1)
            self.assertEqual((journal(desk), desk.talks), (text, talks))
        self.assertEqual(desk.talk_at('k').ask, ('over', 'let'))
        self.assertEqual(Book(desk.book_at('b').text), book)


class Conventions(unittest.TestCase):
    def test_True_is_not_1(self):
        book = Book('prime 3\nlet out = sum x : x')
        for function, arguments, error in (
                (value_at, {'prime': 3, 'poly': (1, 2), 'residue': True}, BadResidue), (pile_value, {'prime': 3, 'entries': (), 'residue': False}, BadResidue),
                (knowing_answers, {'book': book, 'value': True, 'throws': (1,)}, BadResidue),
                (cells_told, {'prime': True, 'values': (0,), 'job': (), 'answers': ((), ((0, 0),)), 'y': 0, 'z': 0}, BadPrime)):
            raised = said_by(self, function, arguments)
            self.assertIs(raised.__class__, error)
        self.assertIs(shows_knowing(book, 1, (0,), ((0, 1),)), True)
        for answer in ((0, True), (False, 1), [0, 1]):
            self.assertIs(shows_knowing(book, 1, (0,), (answer,)), False)

    def test_lists_are_not_tuples(self):
        self.assertEqual(plain_answers((0,), ()), ((), ((0, 0),)))
        machine = Machine('prime 3\nplaces 1\nhalt')
        word, run = plain_run(machine, (0,), 1)
        self.assertEqual(run, (((0, (0, 0, 0, 0)),), (), ((0, 0),)))
        self.assertTrue(lets_pile(3, (), (), 0))

    def test_what_was_returned_may_be_passed_in(self):
        book = Book('prime 1000003\nlet f x = sum y : x*y\nlet out = ' + 'sum a sum b sum c sum d sum e sum g : f[a]+f[b]+f[c]+f[d]')
        great = number_of(book)
        self.assertGreater(great, 10 ** 50)
        for function, arguments in ((Talk, {'book': book, 'value': great}), (pile_value, {'prime': 3, 'entries': (), 'residue': great})):
            self.assertEqual(said_by(self, function, arguments).value, great)
        self.assertEqual(changed_book(Book('prime 3\ntable t 0 1\nlet out = sum x : t[x]'), (('t', (0,), great),)).tables[0][1], (great % 3, 1))


if __name__ == '__main__':
    unittest.main()
