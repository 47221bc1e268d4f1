"""Counts and shares (point 9)."""

import itertools
import unittest
from fractions import Fraction

from fewthrows.books import Book, result_of
from fewthrows.counts import (
    greater_share, led_share, lucky_throws, passes, passing_rows, repeated_share, repeats_for,
)
from fewthrows.degrees import number_of, steps_of, throws_many
from fewthrows.errors import (
    BadAnswers, BadBook, BadNumber, BadResidue, BadShare, BadThrows, TooMany,
)
from fewthrows.tellers import honest_answer, judged, talk_of
from fewthrows.talks import Talk, right_claims
from tests.reference import some_text
from tests.rules import RuleTalk
from tests.support import NO_NUMBERS, Wrong, numbers, said_by, try_by_position, try_order, try_wrong
from tests.test_tellers import NO_ANSWERS as NO_ANSWERS_AT_ALL

TEXT = 'prime 5\ntable t 1 2 3 4\nlet out = sum x sum y : t[x,y]'
BOOK = Book(TEXT)
ANSWERS = (((0, ()), (3, 0)), ((1, (1,)), (3, 2)), ((1, (2,)), (0, 3)), ((1, (3,)), (2, 4)), ((1, (4,)), (4, 0)))
NO_ANSWERS = NO_ANSWERS_AT_ALL + [(((3, ()), (1,)),), ANSWERS + ANSWERS[:1], (((0, ()), (5, 0)),)]
NO_VALUES = NO_NUMBERS + [5, 6, 101, (0,), BOOK]
NO_ROWS = NO_NUMBERS + [0, (), (1,), (1, 5), (5, 1), (1, 2, 3), [1, 2], (1, True), ((1, 2),), '12', BOOK]
NO_SHARES = NO_NUMBERS + [
    0, 1, (1,), (1, 2, 3), (2, 1), (0, 0), (1, 0), (-1, 1), (0, -1), (-2, -1), [1, 2], (True, 2), (0, True), (1, None), ('1', '2'),
    ((1, 2),), (1.0, 2), (1, 2.0), {1: 2}, (10 ** 299, 1), BOOK, (BOOK, 1),
]
NO_SHARES = [wrong for wrong in NO_SHARES if wrong not in ((3, 10 ** 299),)]

CASES = [
    Wrong(passes, {'book': BOOK, 'value': 1, 'answers': ANSWERS}, {'value': (BadResidue, NO_VALUES), 'answers': (BadAnswers, NO_ANSWERS)}),
    Wrong(passing_rows, {'book': BOOK, 'value': 1, 'answers': ANSWERS},
          {'value': (BadResidue, NO_VALUES), 'answers': (BadAnswers, NO_ANSWERS)}),
    Wrong(lucky_throws, {'book': BOOK, 'value': 1, 'answers': ANSWERS, 'throws': (0, 3)},
          {'value': (BadResidue, NO_VALUES), 'answers': (BadAnswers, NO_ANSWERS), 'throws': (BadThrows, NO_ROWS)}),
    Wrong(repeated_share, {'share': (9, 25), 'many': 2},
          {'share': (BadShare, NO_SHARES), 'many': (BadNumber, NO_NUMBERS + [0, 41, 42, 1000, (1,), BOOK])}),
    Wrong(led_share, {'one': (9, 25), 'other': (1, 2)}, {'one': (BadShare, NO_SHARES), 'other': (BadShare, NO_SHARES)}),
    Wrong(greater_share, {'one': (9, 25), 'other': (1, 2)}, {'one': (BadShare, NO_SHARES), 'other': (BadShare, NO_SHARES)}),
    Wrong(repeats_for, {'share': (9, 25), 'bound': (1, 100)}, {'share': (BadShare, NO_SHARES), 'bound': (BadShare, NO_SHARES)}),
]


def small_books(seeds, greatest=400):
    for seed in seeds:
        source = numbers(seed)
        prime = source.choice((3, 3, 5, 7))
        text = some_text(source, prime, 2, source.randint(1, 3), operators=2, calls=0.6, most=2, powers=(2,))
        try:
            book = Book(text)
        except BadBook:
            continue
        steps = [step[-1] for step in steps_of(book) if step[0] != 'parts']
        if book.prime ** len(steps) <= greatest and max(steps or [0]) <= 4:
            yield source, book


def some_answers(source, book, value, chance=0.5):
    """An answer book for some rows: some answers keep the check, others do not."""
    answers = {}
    for _ in range(4):
        rule = RuleTalk(book.text, value)
        while rule.ask()[0] != 'over':
            if rule.ask() == ('throw',):
                rule.throw(source.randrange(book.prime))
                continue
            honest = honest_answer(book, rule.ask())
            key = (rule.at, tuple(rule.throws))
            answer = honest
            for _ in range(30 if source.random() < chance else 0):
                answer = tuple(part if source.random() < 0.6 else source.randrange(book.prime) for part in honest)
                if rule.keeps(answer):
                    break
            if key in answers:
                answer = answers[key]
            elif answer != honest:
                answers[key] = answer
            rule.hear(answer)
    return tuple(answers.items())


def let_by_rules(book, value, answers, row):
    """Whether the row lets the value, and which of its throws are lucky, by the rules of section 8."""
    rule = RuleTalk(book.text, value)
    said = dict(answers)
    lucky = []
    while rule.ask()[0] != 'over':
        if rule.ask() != ('throw',):
            answer = said.get((rule.at, tuple(rule.throws)))
            rule.hear(rule.ref.honest(rule.ask()) if answer is None else answer)
            continue
        at = len(rule.throws)
        step = rule.steps[rule.at]
        used = rule.right()[:2 if step[0] == 'line' else 1]
        # What the throw makes is looked at ahead of what closes it.
        settle, rule.settle = rule.settle, lambda: None
        rule.throw(row[at])
        rule.settle = settle
        if not all(used) and right_now(rule, step):
            lucky.append(at)
        rule.settle()
    return rule.ask() == ('over', 'let'), tuple(lucky)


def right_now(rule, step):
    """Whether the claim that the last throw, of this step, made is right."""
    known, value = rule.open[step[1]][0]
    done = 0
    if step[0] == 'round':
        done = sum(other[:2] == ('round', step[1]) for other in rule.steps[:rule.at])
    true = rule.ref.behind(step[1], done, {key: rule.ref.poly(part) for key, part in known.items()})
    return true.constant() == value


class Arguments(unittest.TestCase):
    def test_each_alone(self):
        for case in CASES:
            try_wrong(self, case)

    def test_first_is_told(self):
        for case in CASES:
            try_order(self, case)

    def test_by_position_and_name(self):
        for case in CASES:
            try_by_position(self, case)

    def test_too_many_rows(self):
        for prime, rounds, many in ((3, 7, 2187), (3, 8, None), (53, 2, 2809), (59, 2, None), (2999, 1, 2999), (3001, 1, None),
                                    (5, 4, 625), (5, 5, None), (7, 4, 2401), (13, 3, 2197), (17, 3, None), (1000003, 0, 1)):
            sums = ' '.join(f'sum {name}' for name in 'abcdefgh'[:rounds])
            book = Book(f'prime {prime}\nlet out = {sums} : 1'.replace('=  :', '= :'))
            value = result_of(book)
            for function in (passes, passing_rows):
                if many is None:
                    raised = said_by(self, function, {'book': book, 'value': value, 'answers': ()})
                    self.assertIs(raised.__class__, TooMany)
                    self.assertEqual(raised.value, 3000)
                    # Wrong arguments come ahead of it.
                    raised = said_by(self, function, {'book': book, 'value': prime, 'answers': None})
                    self.assertEqual((raised.__class__, raised.value), (BadResidue, prime))
                    raised = said_by(self, function, {'book': book, 'value': value, 'answers': None})
                    self.assertEqual((raised.__class__, raised.value), (BadAnswers, None))
                else:
                    found = function(book, value, ())
                    self.assertEqual(found if function is passes else len(found), many)
            # One row of throws is never too many.
            self.assertEqual(lucky_throws(book, value, (), (0,) * rounds), ())


class Rows(unittest.TestCase):
    def test_one_by_one(self):
        lets = luckies = 0
        for source, book in small_books(range(200), greatest=130):
            value = source.choice((result_of(book), source.randrange(book.prime), source.randrange(book.prime)))
            answers = some_answers(source, book, value)
            rows = list(itertools.product(range(book.prime), repeat=throws_many(book)))
            found = []
            for row in rows:
                let, lucky = let_by_rules(book, value, answers, row)
                self.assertEqual(judged(book, value, answers, row) == ('over', 'let'), let)
                self.assertEqual(lucky_throws(book, value, answers, row), lucky, (book.text, value, answers, row))
                if let:
                    found.append(row)
                    if value != result_of(book):
                        self.assertNotEqual(lucky, ())
                luckies += len(lucky)
            self.assertEqual(passing_rows(book, value, answers), tuple(found))
            self.assertEqual(passes(book, value, answers), len(found))
            if value != result_of(book):
                self.assertLessEqual(len(found), number_of(book))
                lets += len(found) > 0
        self.assertGreater(lets, 10)
        self.assertGreater(luckies, 70)

    def test_right_value_is_let_by_all(self):
        for _, book in small_books(range(200, 260)):
            rows = tuple(itertools.product(range(book.prime), repeat=throws_many(book)))
            self.assertEqual(passing_rows(book, result_of(book), ()), rows)
            self.assertEqual(passes(book, result_of(book), ()), len(rows))
            for value in range(book.prime):
                if value != result_of(book):
                    self.assertEqual(passes(book, value, ()), 0)

    def test_no_throws(self):
        book = Book('prime 5\nlet f x = : x\nlet out = : f[2]+f[2]')
        self.assertEqual([passing_rows(book, value, ()) for value in range(5)], [(), (), (), (), ((),)])
        lie = (((0, ()), (3,)),)
        self.assertEqual([passes(book, value, lie) for value in range(5)], [0] * 5)
        self.assertEqual(lucky_throws(book, 1, lie, ()), ())

    def test_lucky_again_and_again(self):
        # Behind a lucky throw a teller can tell a wrong value again, with another lucky throw behind it.
        book = Book('prime 5\ntable t 1 2\nlet f x = sum y : t[y]*x\nlet out = sum x : f[x]*x')
        true = honest_answer(book, Talk(book, 0).ask)
        value = (result_of(book) + 1) % 5
        # The told polynomial is x * (x - 2) * c from the true one, so that 0 and 2 are lucky.
        for factor in range(1, 5):
            told = ((true[0]) % 5, (true[1] - 2 * factor) % 5, (true[2] + factor) % 5)
            if (2 * told[0] + told[1] + told[2] - value) % 5 == 0:
                break
        else:
            self.fail('no such polynomial')
        for throw, lucky in ((0, (0,)), (2, (0,)), (1, ()), (3, ()), (4, ())):
            self.assertEqual(lucky_throws(book, value, (((0, ()), told),), (throw, 3)), lucky)
        lie = talk_of(book, value, (((0, ()), told),), (2,))
        self.assertEqual(right_claims(lie), (True,))
        # A wrong value of the call at 2, that the body's factor does not hide, is refused.
        wrong = ((honest_answer(book, lie.ask)[0] + 1) % 5,)
        self.assertEqual(judged(book, value, (((0, ()), told), ((1, (2,)), wrong)), (2, 0)), ('over', 'refused', 1))
        # At 0 it hides it: the wrong value is told, and let by another lucky throw.
        at_0 = talk_of(book, value, (((0, ()), told),), (0,))
        self.assertEqual(at_0.ask, ('values', 'out', (('f', (0,)),), 1))
        answers = (((0, ()), told), ((1, (0,)), (3,)), ((2, (0,)), (3, 2)))
        self.assertEqual(honest_answer(book, ('polynomial', 'f', 'sum', (('x', 0),), 'y', 1, 2)), (0, 0))
        self.assertEqual([lucky_throws(book, value, answers, (0, throw)) for throw in range(5)],
                         [(0, 1) if (3 + 2 * throw) % 5 == 0 else (0,) for throw in range(5)])

    def test_refused_ahead_of_throws(self):
        self.assertEqual(lucky_throws(BOOK, 1, (((0, ()), (1, 1)),), (0, 0)), ())
        self.assertEqual(lucky_throws(BOOK, 1, (), (0, 0)), ())
        # Lucky at once, then refused.
        answers = (((0, ()), (3, 0)), ((1, (0,)), (0, 0)))
        self.assertEqual(lucky_throws(BOOK, 1, answers, (0, 0)), (0,))

    def test_lines(self):
        # A line uses up two claims: it is lucky if one of them is wrong, and the one that it makes is right.
        book = Book('prime 5\nlet f x = : x\nlet out = : f[0]+f[1]')
        answers = (((0, ()), (1, 1)), ((1, ()), (1, 0)))
        self.assertEqual([lucky_throws(book, 2, answers, (throw,)) for throw in range(5)], [(), (0,), (), (), ()])
        self.assertEqual(passing_rows(book, 2, answers), ((1,),))
        # Both are right, and the line is told otherwise: that is no lucky throw, and no right answer.
        self.assertEqual([lucky_throws(book, 1, (), (throw,)) for throw in range(5)], [()] * 5)
        self.assertEqual(passes(book, 1, ()), 5)

    def test_other_open_claims_do_not_count(self):
        # The claim of f is wrong while g, and its throw, go by what is right.
        book = Book('prime 5\nlet f x = sum y : x*y\nlet g x = sum y : x+y\nlet out = : f[1]+g[1]')
        self.assertEqual(judged(book, 0, (((0, ()), (2, 3)),), (3, 3)), ('over', 'refused', 3))
        for row in itertools.product(range(5), repeat=2):
            self.assertEqual(lucky_throws(book, 0, (((0, ()), (2, 3)),), row), ())
        # The third claim of f is wrong while the line goes through the first two.
        book = Book('prime 5\nlet f x = : x\nlet out = : f[0]+f[1]+f[2]')
        for row in itertools.product(range(5), repeat=2):
            self.assertEqual(lucky_throws(book, 4, (((0, ()), (0, 1, 3)),), row), ())


class Shares(unittest.TestCase):
    SHARES = [(0, 1), (1, 1), (1, 2), (2, 4), (0, 7), (7, 7), (9, 25), (24, 25), (1, 1000), (999, 1000), (3, 10 ** 299),
              (10 ** 299 - 1, 10 ** 299), (10 ** 298, 10 ** 299), (10 ** 299, 10 ** 299), (369, 625), (2, 3), (1, 3)]

    def test_repeated(self):
        for let, rows in self.SHARES:
            for many in (1, 2, 3, 7, 8, 39, 40):
                self.assertEqual(repeated_share((let, rows), many), (let ** many, rows ** many))

    def test_led(self):
        for one in self.SHARES:
            for other in self.SHARES:
                let, rows = led_share(one, other)
                self.assertEqual(rows, one[1] * other[1])
                self.assertEqual(rows - let, (one[1] - one[0]) * (other[1] - other[0]))

    def test_greater(self):
        for one in self.SHARES:
            for other in self.SHARES:
                greater = greater_share(one, other)
                self.assertIs(greater, other if Fraction(*other) > Fraction(*one) else one)
        self.assertEqual([greater_share((1, 2), (2, 4)), greater_share((2, 4), (1, 2))], [(1, 2), (2, 4)])

    def test_repeats(self):
        for share in self.SHARES:
            for bound in self.SHARES[:10] + [(1, 10 ** 40), (1, 10 ** 299), (10 ** 299 - 1, 10 ** 299)]:
                expected = 0
                if Fraction(*share) <= Fraction(*bound):
                    expected = 1
                elif share[0] < share[1] and bound[0] > 0:
                    reached = Fraction(*share)
                    expected = 1
                    while expected < 1002 and reached > Fraction(*bound):
                        reached *= Fraction(*share)
                        expected += 1
                        if share[1] > 10 ** 200 and expected > 3:
                            expected = 1002 if share[1] - share[0] < 10 ** 100 else expected
                if expected > 1000:
                    raised = said_by(self, repeats_for, {'share': share, 'bound': bound})
                    self.assertEqual((raised.__class__, raised.value), (TooMany, 1000))
                else:
                    self.assertEqual(repeats_for(share, bound), expected, (share, bound))

    def test_about_a_thousand(self):
        # (1 / 2) ** many against 1 / 2 ** most, and a little less than that.
        for most in (1, 2, 3, 511, 512, 513, 990):
            self.assertEqual(repeats_for((1, 2), (1, 2 ** most)), most)
            self.assertEqual(repeats_for((1, 2), (1, 2 ** most + 1)), most + 1)
            self.assertEqual(repeats_for((1, 2), (1, 2 ** most - 1)), most)
        share = (999, 1000)
        for most in (998, 999, 1000, 1001, 1002, 1023, 1024, 1025, 3000):
            # The exact power is the bound, cut to figures that are few enough.
            figures = 999 ** most * 10 ** 290 // 1000 ** most
            for bound, expected in (((figures + 1, 10 ** 290), most), ((figures, 10 ** 290), most + 1)):
                if expected > 1000:
                    raised = said_by(self, repeats_for, {'share': share, 'bound': bound})
                    self.assertEqual((raised.__class__, raised.value), (TooMany, 1000))
                else:
                    self.assertEqual(repeats_for(share, bound), expected)

    def test_never(self):
        for share in ((1, 1), (7, 7), (10 ** 299, 10 ** 299)):
            self.assertEqual(repeats_for(share, (10 ** 299 - 1, 10 ** 299)), 0)
            self.assertEqual(repeats_for(share, (0, 1)), 0)
            self.assertEqual(repeats_for(share, (5, 5)), 1)
        for share in ((1, 2), (1, 10 ** 299)):
            self.assertEqual(repeats_for(share, (0, 3)), 0)
        self.assertEqual([repeats_for((0, 3), bound) for bound in ((0, 1), (1, 9), (1, 1))], [1, 1, 1])


if __name__ == '__main__':
    unittest.main()
