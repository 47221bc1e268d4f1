"""Stores that lie (points 14 and 3)."""

import collections
import itertools
import math
import unittest

from fewthrows.errors import BadAnswers, BadJob, BadNumber, BadPrime, BadResidue, BadValues, TooMany
from fewthrows.stores import (
    burnt_answers, cells_told, first_wrong, plain_answers, store_bound, store_rows_let, tallies,
)
from tests.support import NO_NUMBERS, NO_PRIMES, TriedCases, Wrong, numbers, said_by

VALUES = (5, 7)
JOB = (('read', 0), ('put', 1, 2), ('read', 1))
RIGHT = (((5, 0), (7, 0), (2, 2)), ((5, 1), (2, 3)))
TOLD, LAST = RIGHT
NO_VALUES = NO_NUMBERS + [
    0, 1, (5, -1), (5, 1000003), (5, True), [5, 7], (1,) * 17, (0,) * 1000, (5, None), (5, (7,)), (5, 7.0), (5, '7'), {5: 7},
]
# () is a job of no deed.
NO_JOBS = [value for value in NO_NUMBERS if value != ()] + [
    0, 1, 'read', ('read', 0), list(JOB), (list(JOB[0]),), (('read',),), (('read', 2),), (('read', -1),), (('read', True),), (('read', 0, 1),),
    (('put', 0),), (('put', 0, 1, 2),), (('put', 0, -1),), (('put', 0, 1000003),), (('put', 0, True),), (('put', 0, None),), (('put', 2, 1),),
    (('Read', 0),), (('take', 0),), ((0, 'read'),), (('put', '0', 1),), JOB + (('read', 2),), JOB + (None,), (('read', 0),) * 61, ((),), ((0, 0),),
    ((None, 0),), ((('read',), 0),), (('read', (0,)),), (('read ', 0),), (('put', 0, (1,)),), (('put', [0], 1),), ((['read'], 0),),
]
NO_ANSWERS = NO_NUMBERS + [
    0, 1, (TOLD,), (TOLD, LAST, ()), [TOLD, LAST], (list(TOLD), LAST), (TOLD, list(LAST)), (LAST, TOLD), (TOLD[1:], LAST), (TOLD, LAST[1:]),
    (TOLD + ((1, 1),), LAST), (TOLD, LAST + ((1, 1),)), (TOLD[:2] + ((2,),), LAST), (TOLD[:2] + ((2, 2, 2),), LAST), (TOLD[:2] + ([2, 2],), LAST),
    (TOLD[:2] + ((2, -1),), LAST), (TOLD[:2] + ((-1, 2),), LAST), (TOLD[:2] + ((2, True),), LAST), (TOLD[:2] + ((False, 2),), LAST),
    (TOLD[:2] + ((None, 2),), LAST), (TOLD, LAST[:1] + ((2, -1),)), (TOLD, LAST[:1] + ((2, True),)), (TOLD, LAST[:1] + (2,)), (TOLD, LAST[:1] + ((2,),)),
    (TOLD, LAST[:1] + ('23',)), (TOLD, {0: (5, 1), 1: (2, 3)}), ((), ()), (TOLD, ()), ((), LAST),
]
NO_RESIDUES = NO_NUMBERS + [11, 12]
FIRST = {'values': VALUES, 'job': JOB}
WRONG_FIRST = {'values': (BadValues, NO_VALUES), 'job': (BadJob, NO_JOBS)}
BAD_ANSWERS, BAD_RESIDUE = (BadAnswers, NO_ANSWERS), (BadResidue, NO_RESIDUES)
SMALL = (BadPrime, NO_PRIMES + [3, 5, 7])
CASES = [
    Wrong(plain_answers, FIRST, WRONG_FIRST),
    Wrong(tallies, {**FIRST, 'answers': RIGHT}, {**WRONG_FIRST, 'answers': BAD_ANSWERS}),
    Wrong(cells_told, {'prime': 11, **FIRST, 'answers': RIGHT, 'y': 2, 'z': 3},
          {'prime': SMALL, **WRONG_FIRST, 'answers': BAD_ANSWERS, 'y': BAD_RESIDUE, 'z': BAD_RESIDUE}, 'values job answers prime y z'),
    Wrong(store_rows_let, {'prime': 11, **FIRST, 'answers': RIGHT}, {'prime': SMALL, **WRONG_FIRST, 'answers': BAD_ANSWERS},
          'values job answers prime'),
    Wrong(store_bound, {'prime': 11, 'many': 5}, {'prime': (BadPrime, NO_PRIMES), 'many': (BadNumber, NO_NUMBERS + [0, 77, 78, 1000])}),
    Wrong(burnt_answers, {'prime': 11, **FIRST, 'y': 2, 'z': 3}, {'prime': SMALL, **WRONG_FIRST, 'y': BAD_RESIDUE, 'z': BAD_RESIDUE},
          'values job prime y z'),
]
WRONG_ONE = (((5, 0), (7, 0), (7, 0)), ((5, 1), (7, 3)))
CASES.append(Wrong(first_wrong, {**FIRST, 'answers': WRONG_ONE}, {**WRONG_FIRST, 'answers': BAD_ANSWERS}))


def some_store(source, places=None, deeds=None, most=1000002):
    places = places or source.randint(1, 4)
    values = tuple(source.randint(0, most) for _ in range(places))
    deeds = source.choice((0, 1, 2, 3, 5, 9)) if deeds is None else deeds
    job = tuple(
        ('read', source.randrange(places)) if source.random() < 0.5 else ('put', source.randrange(places), source.randint(0, most))
        for _ in range(deeds)
    )
    return values, job


def right_answers(values, job):
    """For each deed what was put at its place last, found by looking back."""
    def at(place, number):
        moments = [moment for moment in range(1, number) if job[moment - 1][1] == place]
        puts = [job[moment - 1][2] for moment in moments if job[moment - 1][0] == 'put']
        return (puts[-1] if puts else values[place], moments[-1] if moments else 0)

    told = tuple(at(deed[1], number) for number, deed in enumerate(job, 1))
    return told, tuple(at(place, len(job) + 1) for place in range(len(values)))


def bent(source, answers, values, job, most):
    """The answers with one to three pairs otherwise: other values or moments, elder ones, those of others."""
    told, last = list(answers[0]), list(answers[1])
    for _ in range(source.randint(1, 3)):
        rows = source.choice((told, last)) if told else last
        at = source.randrange(len(rows))
        value, moment = rows[at]
        way = source.randrange(5)
        if way == 0:
            rows[at] = (source.randint(0, most), moment)
        elif way == 1:
            rows[at] = (value, source.randint(0, at + 1 if rows is told else len(job) + 1))
        elif way == 2:
            rows[at] = source.choice(told + last)
        elif way == 3:
            rows[at] = (max(0, value + source.choice((-1, 1))), moment)
        else:
            other = source.randrange(len(rows))
            rows[at], rows[other] = rows[other], rows[at]
    return tuple(told), tuple(last)


def counters(values, job, answers):
    """What is put and what is taken, as the document says."""
    put = collections.Counter((place, value, 0) for place, value in enumerate(values))
    taken = collections.Counter((place, *pair) for place, pair in enumerate(answers[1]))
    for number, deed in enumerate(job, 1):
        pair = answers[0][number - 1]
        taken[(deed[1], *pair)] += 1
        put[(deed[1], pair[0] if deed[0] == 'read' else deed[2], number)] += 1
    return put, taken


def tallied(values, job, answers):
    for number, (value, moment) in enumerate(answers[0], 1):
        if moment >= number:
            return ('late', number)
    put, taken = counters(values, job, answers)
    unlike = sorted(triple for triple in set(put) | set(taken) if put[triple] != taken[triple])
    return ('unlike', unlike[0]) if unlike else ('let',)


def celled(prime, values, job, answers, y, z):
    for number, (value, moment) in enumerate(answers[0], 1):
        if moment >= number or value >= prime:
            return ('late', number)
    for place, (value, moment) in enumerate(answers[1]):
        if value >= prime or moment > len(job):
            return ('late last', place)
    put, taken = (
        math.prod((z - a - v * y - m * y * y) ** many for (a, v, m), many in pile.items()) % prime
        for pile in counters(values, job, answers)
    )
    return ('let',) if put == taken else ('unequal', put, taken)


def stores(seeds, most=1000002, **more):
    """Stores with right answers and with wrong ones."""
    for seed in seeds:
        source = numbers(seed)
        values, job = some_store(source, most=most, **more)
        right = right_answers(values, job)
        for answers in (right, bent(source, right, values, job, most), bent(source, right, values, job, most)):
            yield source, values, job, answers, right


class Arguments(TriedCases, unittest.TestCase):
    cases = CASES

    def raises(self, function, arguments, error, value):
        raised = said_by(self, function, arguments)
        self.assertEqual((raised.__class__, raised.value), (error, value))

    def test_edges_of_values_and_jobs(self):
        values = (0,) * 15 + (1000002,)
        job = (('put', 15, 1000002), ('read', 15)) * 30
        right = right_answers(values, job)
        self.assertEqual(plain_answers(values, job), right)
        self.assertEqual(cells_told(1000003, values, job, right, 2, 3), ('let',))
        self.raises(plain_answers, {'values': values + (0,), 'job': job}, BadValues, values + (0,))
        self.raises(plain_answers, {'values': values, 'job': job + job[:1]}, BadJob, job + job[:1])
        self.raises(plain_answers, {'values': (1000003,), 'job': ()}, BadValues, (1000003,))
        self.raises(plain_answers, {'values': (0,), 'job': (('put', 0, 1000003),)}, BadJob, (('put', 0, 1000003),))
        self.assertEqual(plain_answers((0,), ()), ((), ((0, 0),)))

    def prime_of(self, prime, values, job, error):
        right = right_answers(values, job)
        for function, more in ((cells_told, {'answers': right, 'y': 0, 'z': 0}), (burnt_answers, {'y': 1, 'z': 0}), (store_rows_let, {'answers': right})):
            arguments = {'prime': prime, 'values': values, 'job': job, **more}
            if error:
                self.raises(function, arguments, BadPrime, prime)
            else:
                function(**arguments)

    def test_primes_great_enough(self):
        for prime in (3, 5, 7, 11, 13):
            # The greatest place is one less than the number of places.
            self.prime_of(prime, (0,) * prime, (), False)
            self.prime_of(prime, (0,) * (prime + 1), (), True)
        for prime in (3, 5, 7, 11, 13, 59):
            self.prime_of(prime, (prime - 1, 0), (('put', 1, prime - 1),), False)
            self.prime_of(prime, (0, prime), (), True)
            self.prime_of(prime, (0, 0), (('read', 0), ('put', 1, prime)), True)
            self.prime_of(prime, (0, 0), (('read', 0),) * (prime - 1), False)
            self.prime_of(prime, (0, 0), (('read', 0),) * prime, True)
        self.prime_of(61, (0, 0), (('read', 0),) * 60, False)
        self.prime_of(13, (0,) * 14, (), True)

    def test_primes_behind_answers(self):
        self.raises(cells_told, {'prime': 5, 'values': (5,), 'job': (), 'answers': ((), ()), 'y': 7, 'z': 7}, BadAnswers, ((), ()))
        self.raises(store_rows_let, {'prime': 103, 'values': (103,), 'job': (), 'answers': ((), ((0, 0),))}, BadPrime, 103)

    def test_too_many(self):
        arguments = {'values': (5,), 'job': (), 'answers': ((), ((5, 0),))}
        self.assertEqual(store_rows_let(101, **arguments), 101 ** 2)
        for prime in (103, 107, 1009, 1000003):
            self.raises(store_rows_let, {'prime': prime, **arguments}, TooMany, 101)
            self.assertEqual(store_bound(prime, 1), 2 * prime)
        self.assertEqual(store_bound(3, 76), 9)


class Tallies(unittest.TestCase):
    def test_right_answers(self):
        for source, values, job, answers, right in stores(range(120)):
            self.assertEqual(plain_answers(values, job), right)
        values, job = some_store(numbers(1), places=16, deeds=60)
        self.assertEqual(plain_answers(values, job), right_answers(values, job))

    def test_first_wrong(self):
        seen = collections.Counter()
        for source, values, job, answers, right in stores(range(200)):
            wanted = None
            for word, rows, told, begin in (('last', right[1], answers[1], 0), ('deed', right[0], answers[0], 1)):
                unlike = [at for at, pair in enumerate(rows) if pair != told[at]]
                if unlike:
                    wanted = (word, unlike[0] + begin)
            self.assertEqual(first_wrong(values, job, answers), wanted)
            seen[wanted and wanted[0]] += 1
        self.assertGreater(min(seen.values()), 40)
        self.assertEqual(len(seen), 3)

    def test_tallies(self):
        seen = collections.Counter()
        for source, values, job, answers, right in stores(range(300), most=9):
            found = tallies(values, job, answers)
            self.assertEqual(found, tallied(values, job, answers))
            self.assertEqual(found == ('let',), answers == right)
            seen[found[0]] += 1
        self.assertGreater(min(seen.values()), 30)
        self.assertEqual(len(seen), 3)

    def test_all_answers_of_a_small_store(self):
        values, job = (0, 1), (('read', 0), ('put', 0, 1))
        right = plain_answers(values, job)
        pairs = list(itertools.product(range(2), range(3)))
        for told in itertools.product(pairs, repeat=4):
            answers = (told[:2], told[2:])
            found = tallies(values, job, answers)
            self.assertEqual(found == ('let',), answers == right)
            self.assertEqual(found, tallied(values, job, answers))

    def test_moment_of_the_deed_itself(self):
        job = (('put', 0, 4), ('read', 0), ('read', 0))
        right = plain_answers((9,), job)
        self.assertEqual(right, (((9, 0), (4, 1), (4, 2)), ((4, 3),)))
        for number in (1, 2, 3):
            told = list(right[0])
            for moment in (number, number + 1, 10 ** 299):
                told[number - 1] = (told[number - 1][0], moment)
                self.assertEqual(tallies((9,), job, (tuple(told), right[1])), ('late', number))
                self.assertEqual(cells_told(11, (9,), job, (tuple(told), right[1]), 1, 2), ('late', number))
            told[number - 1] = (told[number - 1][0], number - 1)
            self.assertEqual(tallies((9,), job, (tuple(told), right[1])), ('let',))

    def test_future_in_last(self):
        # The checker with piles is never late in last: nobody put such a triple.
        right = plain_answers((9,), (('read', 0),))
        for moment in (2, 7, 10 ** 299):
            answers = (right[0], ((9, moment),))
            self.assertEqual(tallies((9,), (('read', 0),), answers), ('unlike', (0, 9, 1)))
            self.assertEqual(cells_told(11, (9,), (('read', 0),), answers, 1, 2), ('late last', 0))
            self.assertEqual(store_rows_let(11, (9,), (('read', 0),), answers), 0)

    def test_great_values(self):
        right = plain_answers((9, 9), (('read', 0),))
        great = (((11, 0),), right[1])
        self.assertEqual(tallies((9, 9), (('read', 0),), great), ('unlike', (0, 9, 0)))
        self.assertEqual(cells_told(11, (9, 9), (('read', 0),), great, 1, 2), ('late', 1))
        great = (right[0], ((9, 1), (11, 0)))
        self.assertEqual(tallies((9, 9), (('read', 0),), great), ('unlike', (1, 9, 0)))
        self.assertEqual(cells_told(11, (9, 9), (('read', 0),), great, 1, 2), ('late last', 1))


class Cells(unittest.TestCase):
    def test_told(self):
        seen = collections.Counter()
        for source, values, job, answers, right in stores(range(250), most=12):
            for prime in (13, 17, 101, 1000003):
                y, z = source.randrange(prime), source.randrange(prime)
                found = cells_told(prime, values, job, answers, y, z)
                self.assertEqual(found, celled(prime, values, job, answers, y, z))
                seen[found[0]] += 1
                if answers == right:
                    self.assertEqual(found, ('let',))
        self.assertEqual(sorted(seen), ['late', 'late last', 'let', 'unequal'])
        self.assertGreater(min(seen.values()), 3)

    def test_all_throws_and_bound(self):
        wrong = 0
        for source, values, job, answers, right in stores(range(60), most=6, places=2):
            for prime in (7, 11, 13):
                if prime <= len(job):
                    continue
                let = sum(
                    cells_told(prime, values, job, answers, y, z) == ('let',) for y in range(prime) for z in range(prime))
                self.assertEqual(store_rows_let(prime, values, job, answers), let)
                if answers == right:
                    self.assertEqual(let, prime ** 2)
                else:
                    self.assertLessEqual(let, store_bound(prime, len(values) + len(job)))
                    wrong += 1
        self.assertGreater(wrong, 100)

    def test_bound_of_few(self):
        values, job = (1, 2), ()
        for last in itertools.product(itertools.product(range(5), (0,)), repeat=2):
            let = store_rows_let(101, values, job, ((), last))
            self.assertEqual(let == 101 ** 2, last == ((1, 0), (2, 0)))
            if let < 101 ** 2:
                self.assertLessEqual(let, store_bound(101, 2))
        self.assertEqual(store_bound(101, 2), 4 * 101 + 97)

    def test_bounds(self):
        for prime in (3, 5, 7, 11, 101, 151, 1000003):
            for many in range(1, 77):
                b, c = min(2 * many, prime), min(many - 1, prime)
                self.assertEqual(store_bound(prime, many), b * prime + (prime - b) * c)

    def test_great_job_counted(self):
        values, job = some_store(numbers(5), places=16, deeds=60, most=60)
        right = plain_answers(values, job)
        self.assertEqual(store_rows_let(101, values, job, right), 101 ** 2)
        told = right[0][:-1] + ((right[0][-1][0] + 1, right[0][-1][1]),)
        let = store_rows_let(101, values, job, (told, right[1]))
        self.assertLess(let, 101 ** 2)
        self.assertEqual(let, sum(celled(101, values, job, (told, right[1]), y, z) == ('let',) for y in range(101) for z in range(101)))


class Burnt(unittest.TestCase):
    def burnt(self, prime, values, job, y, z):
        right = right_answers(values, job)
        answers = burnt_answers(prime, values, job, y, z)
        if y == 0 or len(values) == 1:
            self.assertIsNone(answers)
            return
        self.assertNotEqual(answers, right)
        self.assertIsNotNone(first_wrong(values, job, answers))
        self.assertEqual(cells_told(prime, values, job, answers, y, z), ('let',))
        self.assertEqual((answers[0], answers[1][2:]), (right[0], right[1][2:]))

    def test_some(self):
        for source, values, job, answers, right in stores(range(60), most=12):
            for prime in (13, 101, 1000003):
                self.burnt(prime, values, job, source.randrange(prime), source.randrange(prime))

    def test_all_of_small_primes(self):
        for prime in (3, 5):
            for values in itertools.product(range(prime), repeat=2):
                for job in ((), (('read', 1),), (('put', 0, 1), ('put', 1, 2))):
                    for y, z in itertools.product(range(prime), repeat=2):
                        self.burnt(prime, values, job, y, z)

    def test_one_place(self):
        for y in range(7):
            self.assertIsNone(burnt_answers(7, (3,), (('read', 0),), y, 2))


if __name__ == '__main__':
    unittest.main()
