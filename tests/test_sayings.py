"""Sayings (points 11 and 3)."""

import ast
import copy
import itertools
import re
import unittest

from fewthrows.books import Book, result_of
from fewthrows.degrees import degree_in, round_degrees, steps_of
from fewthrows.errors import (
    BadBook, BadLowers, BadNumber, BadPrime, BadSaying, TooDeep, TooHigh, TooLong,
)
from fewthrows.sayings import Saying, body_text, full_lowers, is_true, least_lowers, saying_book
from fewthrows.tellers import judged
from tests.support import (
    DEEP, NO_NUMBERS, NO_PRIMES, Wrong, numbers, said_by, try_by_position, try_order, try_wrong,
)

TEXT = 'all x some y : (x|y)&!(x&y)'
SAYING = Saying(TEXT)
NO_LOWERS = NO_NUMBERS + [
    0, (), ((),), ((), (), ()), ((1,), ()), ((), (2,)), ((), (1, 0)), ((), (0, 0)), ((), (0, 1, 1)), ((-1,), ()), ((), (-1, 0)), [(), (0,)],
    ([], (0,)), ((), [0]), ((False,), ()), ((), (0, True)), ((), (None,)), ((), ('0',)), ((), 0), (0, ()), ((0,), (0, 1, 2)), ((0, 1), (0,)),
    {0: (), 1: (0,)}, 'ab', (('a',), ('b',)), ((), ((0,),)), ((0.0,), ()), SAYING, (SAYING, ()), ((), (10 ** 299,)),
]
CASES = [
    Wrong(saying_book, {'saying': SAYING, 'prime': 5, 'lowers': ((), (0,))},
          {'prime': (BadPrime, NO_PRIMES), 'lowers': (BadLowers, NO_LOWERS)}),
    Wrong(least_lowers, {'saying': SAYING, 'most': 2},
          {'most': (BadNumber, [wrong for wrong in NO_NUMBERS] + [0, 1, 1001, 1002, 10 ** 6, (2,), [2], '2', SAYING])}),
]
ALONE = (is_true, body_text, full_lowers)


def number_of_bad(text):
    try:
        Saying(text)
    except BadSaying as error:
        return error.value
    return None


def first_bad(text):
    """What BadSaying tells of the text, sign by sign with a list of what is open; None for a saying."""
    head = re.compile('((all|some) [a-z]{1,8} ){1,5}: ')
    at = 0
    # The head: the longest beginning that some head begins with.
    while at < len(text) and not head.fullmatch(text[:at]):
        if not begins_head(text[:at + 1]):
            return at
        at += 1
    if not head.fullmatch(text[:at]):
        return at
    names = [word for word in text[:at].split(' ')[1::2] if word]
    opened, word, used, ended = [], '', 0, False
    for place in range(at, len(text)):
        sign = text[place]
        deep = len(opened)
        if sign.isalpha() and not ended and any(name.startswith(word + sign) for name in names):
            word += sign
            continue
        if word:
            if word not in names:
                return place
            used, word, ended = used + 1, '', True
        if ended:
            # Behind a thing all ! ahead of it are closed.
            while opened and opened[-1] == '!':
                opened.pop()
        if not ended and sign in '(!' and deep < 10:
            opened.append(sign)
        elif ended and sign in '&|' and used < 12:
            ended = False
        elif ended and sign == ')' and opened:
            opened.pop()
        else:
            return place
    if word:
        ended = word in names
    return None if ended and '(' not in opened else len(text)


def begins_head(text):
    """Whether some saying's head begins with this text."""
    words = text.split(' ')
    names = []
    for at, word in enumerate(words):
        last = at == len(words) - 1
        if at % 2 == 0:
            wants = ['all', 'some'] if len(names) < 5 else []
            wants += [':'] if names else []
            if word == ':' and word in wants:
                return last or words[at + 1:] == ['']
            if not any(want == word or last and want.startswith(word) for want in wants):
                return False
        else:
            good = re.fullmatch('[a-z]{0,8}' if last else '[a-z]{1,8}', word)
            taken = names + ['all', 'some']
            if not good or (word in taken and (not last or len(word) == 8)):
                return False
            names.append(word)
    return True


def tree_of(text):
    """The body of a saying's text as Python reads it, its names a, b, .. there."""
    words = text.split(' ')
    names = words[1:-2:2]
    body = re.sub('[a-z]+', lambda found: 'abcde'[names.index(found.group())], words[-1])
    body = body.replace('!', ' not ').replace('&', ' and ').replace('|', ' or ')
    return body.strip(), words[:-2:2], len(names)


def true_by_rule(text):
    body, wants, many = tree_of(text)
    code = compile(body, 'body', 'eval')

    def holds(bits):
        if len(bits) == many:
            return bool(eval(code, {}, dict(zip('abcde', bits))))
        return (all if wants[len(bits)] == 'all' else any)([holds(bits + (bit,)) for bit in (0, 1)])

    return holds(())


def text_by_rule(text):
    def written(node):
        if isinstance(node, ast.Name):
            return node.id
        if isinstance(node, ast.UnaryOp):
            return f'(1-{written(node.operand)})'
        parts = [written(part) for part in node.values]
        if isinstance(node.op, ast.And):
            return f"({'*'.join(parts)})"
        return f"(1-{'*'.join(f'(1-{part})' for part in parts)})"

    return written(ast.parse(tree_of(text)[0], mode='eval').body)


def some_saying(source, most=5, depth=3, things=9):
    many = source.randint(1, most)
    names = source.sample(['x', 'y', 'xy', 'z', 'alls', 'somes', 'abcdefgh', 'al', 'a', 'not', 'c'], many)
    left = [things]

    def body(deep):
        if left[0] <= 1 or deep == 0 or source.random() < 0.25:
            left[0] -= 1
            return source.choice(names)
        way = source.random()
        if way < 0.2:
            return '!' + thing(deep - 1)
        if way < 0.35:
            return '(' + body(deep - 1) + ')'
        return source.choice('&|').join(thing(deep - 1) if source.random() < 0.6 else body(deep - 1) for _ in range(source.randint(2, 3)))

    def thing(deep):
        text = body(deep)
        return text if re.fullmatch('!*[a-z]+', text) or source.random() < 0.3 and text[0] == '(' and closes_last(text) else f'({text})'

    while True:
        left[0] = things
        text = ' '.join(f"{source.choice(['all', 'some'])} {name}" for name in names) + ' : ' + body(depth)
        if first_bad(text) is None:
            return text


def closes_last(text):
    """Whether the first bracket is closed by the last sign."""
    deep = 0
    for at, sign in enumerate(text):
        deep += (sign == '(') - (sign == ')')
        if deep == 0:
            return at == len(text) - 1
    return False


class Arguments(unittest.TestCase):
    def test_each_alone(self):
        for case in CASES:
            try_wrong(self, case)

    def test_first_is_told(self):
        for case in CASES:
            try_order(self, case)

    def test_by_position_and_name(self):
        for case in CASES:
            try_by_position(self, case)
        for function in ALONE:
            self.assertEqual(function(SAYING), function(saying=SAYING))
        self.assertEqual(Saying(text=TEXT), SAYING)

    def test_text_is_a_string(self):
        for value in [wrong for wrong in NO_NUMBERS if not isinstance(wrong, str)] + [0, 1, [TEXT], (TEXT,), SAYING, DEEP]:
            with self.assertRaises(BadSaying) as caught:
                Saying(value)
            self.assertEqual((caught.exception.value.__class__, caught.exception.value), (int, -1))

    def test_sequence_of_errors(self):
        # 12 names, each thing in an or: long and deep at once.
        long = Saying('all x : ' + '&'.join(['(x|!x)'] * 6))
        self.assertLessEqual(len(body_text(long)), 200)
        far = Saying('all x : ' + '|'.join(['!!!x'] * 12))
        self.assertGreater(len(body_text(far)), 200)
        for prime, lowers, error, told in ((4, None, BadPrime, 4), (3, None, BadLowers, None), (3, ((),), TooLong, 200)):
            raised = said_by(self, saying_book, {'saying': far, 'prime': prime, 'lowers': lowers})
            self.assertEqual((raised.__class__, raised.value), (error, told))


class Texts(unittest.TestCase):
    def bad(self, place, *texts):
        for text in texts:
            with self.subTest(text=text):
                self.assertEqual(first_bad(text), place)
                self.assertEqual(number_of_bad(text), place)

    def test_cut_off_at_each_place(self):
        for text in (TEXT, 'some abcdefgh all alls : !abcdefgh|(!!alls&abcdefgh)', 'all a all b all c all d some e : a&b|c&(d|e)'):
            for at in range(len(text)):
                bad = first_bad(text[:at])
                self.assertIn(bad, (None, at))
                self.assertEqual(number_of_bad(text[:at]), bad, text[:at])
            self.bad(None, text)

    def test_heads(self):
        self.bad(0, '', 'x', ' all x : x', ': x', 'All x : x', '1', '!')
        self.bad(1, 'a', 's', 'abl x : x', 'sx', 'a x')
        self.bad(3, 'all', 'ally x : x', 'som', 'all\n', 'all:')
        self.bad(4, 'all ', 'all  x : x', 'all 1 : x', 'all : x', 'all X : x', 'some')
        self.bad(5, 'all x', 'all x: x', 'all x1 : x', 'all x&', 'some ')
        self.bad(6, 'all x ', 'all x x', 'all x  : x', 'all x &')
        self.bad(7, 'all x :', 'all x :x', 'all x ::', 'all x a')
        self.bad(8, 'all x : ', 'all x :  x', 'all x : y', 'all x : &', 'all x : )', 'all x : 1')
        # A name can go on: all and some are beginnings of names.
        self.bad(6, 'all al', 'all al1')
        self.bad(7, 'all all', 'all all : all')
        self.bad(8, 'all some', 'all some : some')
        self.bad(None, 'all alls some somea : alls|somea', 'some al some so : al&so')
        self.bad(11, 'all x all x', 'all x all x : x')
        self.bad(None, 'all x all xx : x&xx')
        # Nine letters: the last one is too many. Eight letters that another name has: no other sign can follow.
        self.bad(12, 'all abcdefgh', 'all abcdefghi : x')
        self.bad(24, 'all abcdefgh all abcdefgh : x', 'all abcdefgh all abcdefgh')
        self.bad(24, 'all abcdefgh all abcdefg')
        self.bad(None, 'all abcdefgh all abcdefgi : abcdefgh')

    def test_how_many_names(self):
        for many in range(1, 8):
            names = 'vwxyzab'[:many]
            text = ' '.join(f'some {name}' for name in names) + ' : v'
            self.bad(None if many <= 5 else 5 * 7, text)

    def test_names_in_the_body(self):
        for many in (11, 12, 13, 20):
            for sign in '&|':
                text = 'all x : ' + sign.join(['x'] * many)
                self.bad(None if many <= 12 else 8 + 2 * 12 - 1, text)
                text = 'all x : ' + '(' + sign.join(['x'] * many) + ')'
                self.bad(None if many <= 12 else 9 + 2 * 12 - 1, text)
        twelve = 'all x : ' + '&'.join(['x'] * 12)
        self.bad(len(twelve), twelve + '&', twelve + '|x', twelve + ')', twelve + 'x', twelve + ' ', twelve + '\n')
        within = 'all x : (' + '&'.join(['x'] * 12)
        self.bad(len(within), within, within + '&', within + '|', within + '!')
        self.bad(None, within + ')')
        # One name begins with the other one.
        self.bad(None, 'all x all xy : xy&x&xy')
        self.bad(18, 'all x all xyz : xy', 'all x all xyz : xy&', 'all x all xyz : xy)', 'all x all xyz : xyy')
        self.bad(19, 'all x all xyz : xyzz')
        self.bad(16, 'all y all xyz : z')

    def test_nested(self):
        for deep in range(14):
            for opens, closes in (('(' * deep, ')' * deep), ('!' * deep, ''), ('!(' * (deep // 2) + '!' * (deep % 2), ')' * (deep // 2)),
                                  ('(!' * (deep // 2), ')' * (deep // 2))):
                text = f'all x : {opens}x{closes}'
                nested = len(opens)
                self.bad(None if nested <= 10 else 8 + 10, text)
                both = f'all x : (!x)&{opens}x|x{closes}' if closes else f'all x : (!x)&{opens}x'
                self.bad(None if nested <= 10 else 8 + 5 + 10, both)
        self.bad(None, 'all x : ' + '&'.join(['!' * 10 + 'x'] * 12), 'all x : ' + '|'.join(['(' * 10 + 'x' + ')' * 10] * 12))

    def test_bodies(self):
        head = 'all x some y : '
        for body in ('x', '!x', 'x&y', 'x|y', '(x)', '!(x)', '!!x', 'x&!y|x', '((x)&(y))', 'x&y&x|y|x', '!x&!y', '!(x|y)&x'):
            self.bad(None, head + body)
        for body, place in (('', 0), ('x&', 2), ('x|', 2), ('!', 1), ('(', 1), ('(x', 2), ('()', 1), ('x)', 1), ('x!', 1), ('x(', 1), ('xy', 1), ('x y', 1),
                            ('&x', 0), ('|x', 0), (')', 0), ('x&&y', 2), ('x||y', 2), ('x&|y', 2), ('(x)y', 3), ('(x)(y)', 3), ('!&x', 1), ('(x))', 3),
                            ('((x)', 4), ('x ', 1), ('x&)', 2), ('z', 0), ('x-y', 1), ('x*y', 1), ('X', 0), ('x\n', 1), ('!x)', 2), ('x&y)', 3), ('1', 0)):
            self.bad(len(head) + place, head + body)

    def test_changed_by_a_sign(self):
        bad = 0
        for seed in range(150):
            source = numbers(seed)
            text = some_saying(source)
            self.bad(None, text)
            for _ in range(25):
                at = source.randrange(len(text) + 1)
                sign = source.choice(['', ' ', 'x', 'y', 'a', 'l', '(', ')', '!', '&', '|', ':', 'all ', 'some q ', '!!!!!!', '((((((', '\n', '1'])
                changed = text[:at] + sign + text[at + source.randint(0, 1):]
                self.assertEqual(number_of_bad(changed), first_bad(changed), changed)
                bad += first_bad(changed) is not None
        self.assertGreater(bad, 1500)

    def test_attributes(self):
        text = 'some xy all x some abcdefgh : !x|xy&abcdefgh'
        saying = Saying(text)
        self.assertEqual((saying.text, saying.names, saying.wants), (text, ('xy', 'x', 'abcdefgh'), ('some', 'all', 'some')))
        for name in ('text', 'names', 'wants'):
            self.assertIn(name, vars(saying))

    def test_equal(self):
        self.assertTrue(SAYING == Saying(TEXT))
        self.assertFalse(SAYING != Saying(TEXT))
        self.assertEqual(SAYING, copy.deepcopy(SAYING))
        for value in (Saying(TEXT.replace('some', 'all')), Saying('all x : x'), TEXT, None, 0, (TEXT,), object(), Book('prime 3\nlet a = : 1')):
            self.assertFalse(SAYING == value)
            self.assertTrue(SAYING != value)
        # Brackets that need not stand make another text.
        self.assertNotEqual(Saying('all x : x'), Saying('all x : (x)'))


class Truth(unittest.TestCase):
    def test_against_python(self):
        found = []
        for seed in range(400):
            text = some_saying(numbers(seed))
            truth = is_true(Saying(text))
            self.assertIs(truth, true_by_rule(text), text)
            found.append(truth)
        self.assertGreater(min(found.count(True), found.count(False)), 50)

    def test_binding(self):
        for text, truth in (('some x some y some z : !x&y', True), ('all x all y : !x&y|x|!y', True), ('all x all y : !(x&y)|x', True),
                            ('some x all y : x|y&y', True), ('all x some y : !x&y|x', True), ('all x all y : x|y&x', False),
                            ('all x : !!x', False), ('all x : !x|x', True), ('some x : x&!x', False), ('all x some y : (x|y)&x', False)):
            self.assertIs(is_true(Saying(text)), truth, text)

    def test_sequence_of_names(self):
        self.assertIs(is_true(Saying('all x some y : x&y|!x&!y')), True)
        self.assertIs(is_true(Saying('some y all x : x&y|!x&!y')), False)


class Bodies(unittest.TestCase):
    def test_texts(self):
        for text, body in (
            ('all x : x', 'a'), ('all x : !x', '(1-a)'), ('all x : ((x))', 'a'), ('all x all y : x&y', '(a*b)'), ('all x all y : x|y', '(1-(1-a)*(1-b))'),
            ('all y all x : x|y', '(1-(1-b)*(1-a))'), ('all x : x&x&x', '(a*a*a)'), ('all x : (x&x)&x', '((a*a)*a)'), ('all x : x&(x&x)', '(a*(a*a))'),
            ('all x : x|x|x', '(1-(1-a)*(1-a)*(1-a))'), ('all x : (x|x)|x', '(1-(1-(1-(1-a)*(1-a)))*(1-a))'), ('all x : !!x', '(1-(1-a))'),
            ('all x : !x&x|x', '(1-(1-((1-a)*a))*(1-a))'), ('all x : !(x&x)', '(1-(a*a))'), ('all x : (!x)', '(1-a)'),
            ('some v some w some x some y some z : z&y&x&w&v', '(e*d*c*b*a)'),
        ):
            self.assertEqual(body_text(Saying(text)), body)

    def test_against_python(self):
        for seed in range(300):
            text = some_saying(numbers(seed))
            self.assertEqual(body_text(Saying(text)), text_by_rule(text), text)


class Books(unittest.TestCase):
    def text_by_rule(self, text, prime, lowers):
        wants = text.split(' ')[:-2:2]
        lines = [f'prime {prime}']
        body = text_by_rule(text)
        for at in range(len(wants) - 1, -1, -1):
            names = list('abcde'[:at + 1])
            parts = ['let', f'q{names[-1]}', *names[:-1], '=', wants[at], names[-1]]
            for lower in lowers[at]:
                parts += ['low', 'abcde'[lower]]
            lines.append(' '.join(parts + [':', body]))
            body = f"q{names[-1]}[{','.join(names[:-1])}]"
        return '\n'.join(lines)

    def some_lowers(self, source, many):
        return tuple(tuple(at for at in range(number + 1) if source.random() < 0.4) for number in range(many))

    def test_texts_and_results(self):
        tried = 0
        for seed in range(200):
            source = numbers(seed)
            text = some_saying(source, depth=2, things=6)
            saying = Saying(text)
            many = len(saying.names)
            if len(body_text(saying)) > 200:
                continue
            for lowers in (((),) * many, full_lowers(saying), self.some_lowers(source, many), least_lowers(saying, 12)):
                prime = source.choice((3, 5, 7, 101, 1000003))
                told = saying_book(saying, prime, lowers)
                self.assertEqual(told, self.text_by_rule(text, prime, lowers))
                try:
                    book = Book(told)
                except BadBook:
                    continue
                self.assertEqual(result_of(book), int(is_true(saying)), told)
                tried += 1
        self.assertGreater(tried, 300)

    def test_talks(self):
        for seed in range(40):
            source = numbers(seed)
            saying = Saying(some_saying(source, most=3, depth=2, things=4))
            book = Book(saying_book(saying, 101, least_lowers(saying, 12)))
            truth = int(is_true(saying))
            row = tuple(source.randrange(101) for step in steps_of(book) if step[0] != 'parts')
            self.assertEqual(judged(book, truth, (), row), ('over', 'let'))
            self.assertEqual(judged(book, 1 - truth, (), row)[:2], ('over', 'refused'))

    def test_great_books(self):
        # All lowers of five names are 20 lows: far more than 4,096 places, but the text is told.
        saying = Saying('all v some w all x some y all z : v|w&!x|y&z')
        told = saying_book(saying, 3, full_lowers(saying)).split('\n')
        self.assertEqual(told[1], f'let qe a b c d = all e low a low b low c low d low e : {body_text(saying)}')
        self.assertEqual(told[-1], 'let qa = all a low a : qb[a]')
        self.assertEqual(result_of(Book('\n'.join(told))), int(is_true(saying)))

    def test_lowers(self):
        for saying, lowers in ((Saying('all x : x'), ((),)), (Saying('all x : x'), ((0,),)), (SAYING, ((0,), (0, 1))), (SAYING, ((), (1,)))):
            self.assertIsInstance(saying_book(saying, 3, lowers), str)
        for many in range(1, 6):
            saying = Saying(' '.join(f'all {name}' for name in 'vwxyz'[:many]) + ' : v')
            self.assertEqual(full_lowers(saying), tuple(tuple(range(at + 1)) for at in range(many)))
            for wrong in (((),) * (many - 1), ((),) * (many + 1), ((),) * (many - 1) + ((many,),), ((),) * (many - 1) + ((0, 0),), list(((),) * many)):
                raised = said_by(self, saying_book, {'saying': saying, 'prime': 3, 'lowers': wrong})
                self.assertIs(raised.__class__, BadLowers)
                self.assertIs(raised.value, wrong)

    def test_too_long(self):
        # Each further ! makes the body four signs longer; a name, and what joins it, two or six.
        # So the lengths are odd ones, and 199 and 201 are those at the edge.
        seen = set()
        for nots in range(0, 61):
            for names in (8, 9, 10, 11, 12):
                each = [nots // names + (at < nots % names) for at in range(names)]
                for sign in '&|':
                    body = sign.join('!' * many + 'x' for many in each)
                    saying = Saying('all x : ' + body)
                    length = len(body_text(saying))
                    if not 190 <= length <= 210:
                        continue
                    seen.add(length)
                    if length > 200:
                        raised = said_by(self, saying_book, {'saying': saying, 'prime': 3, 'lowers': ((),)})
                        self.assertEqual((raised.__class__, raised.value), (TooLong, 200))
                    else:
                        self.assertIn(body_text(saying), saying_book(saying, 3, ((),)))
        self.assertGreaterEqual(seen, {199, 201})

    def test_too_deep(self):
        for nots in range(8, 11):
            # Each ! is a bracket; a name needs none, and things joined by | need two.
            for inner, more in (('x', 0), ('(x&x)', 1), ('(x|x)', 2)):
                if nots + (inner != 'x') > 10:
                    continue
                saying = Saying('all x : ' + '!' * nots + inner)
                deep = nots + more
                if deep > 10:
                    raised = said_by(self, saying_book, {'saying': saying, 'prime': 3, 'lowers': ((),)})
                    self.assertEqual((raised.__class__, raised.value), (TooDeep, 10))
                else:
                    self.assertEqual(len(Book(saying_book(saying, 3, ((),)))), 1)
        # Long comes ahead of deep.
        both = Saying('all x : ' + '!' * 8 + '(' + '|'.join(['!x'] * 11) + ')')
        self.assertLessEqual(len(body_text(both)), 200)
        self.assertEqual(said_by(self, saying_book, {'saying': both, 'prime': 3, 'lowers': ((),)}).value, 10)
        both = Saying('all x : ' + '!' * 7 + '(' + '|'.join(['!!x'] * 11) + ')|' + '!' * 10 + 'x')
        self.assertGreater(len(body_text(both)), 200)
        raised = said_by(self, saying_book, {'saying': both, 'prime': 3, 'lowers': ((),)})
        self.assertEqual((raised.__class__, raised.value), (TooLong, 200))


class Least(unittest.TestCase):
    def rounds(self, saying, lowers):
        """The greatest degree of a round; 0 if there is none."""
        book = Book(saying_book(saying, 3, lowers))
        return max(max(round_degrees(book, line[0])) for line in book.functions)

    def lows(self, lowers):
        return sum(map(len, lowers))

    def test_fewest(self):
        tried = 0
        for seed in range(160):
            source = numbers(seed)
            saying = Saying(some_saying(source, most=3, depth=2, things=6))
            many = len(saying.names)
            every = [tuple(parts) for parts in itertools.product(*[
                [part for size in range(at + 2) for part in itertools.combinations(range(at + 1), size)] for at in range(many)])]
            for most in (2, 3, 4, 5, 6, 8, 9):
                try:
                    lowers = least_lowers(saying, most)
                except TooHigh:
                    continue
                self.assertLessEqual(self.rounds(saying, lowers), most)
                fewer = [other for other in every if self.lows(other) < self.lows(lowers)]
                for other in fewer:
                    self.assertGreater(self.rounds(saying, other), most)
                tried += len(fewer) > 0
        self.assertGreater(tried, 50)

    def test_by_rule(self):
        for seed in range(200):
            saying = Saying(some_saying(numbers(seed), things=12))
            count = [re.findall('[a-z]', body_text(saying)).count(name) for name in 'abcde'[:len(saying.names)]]
            for most in (2, 3, 4, 7, 12, 24, 25, 1000):
                high = [degree for degree in count if degree > most]
                if high:
                    raised = said_by(self, least_lowers, {'saying': saying, 'most': most})
                    self.assertEqual((raised.__class__, raised.value), (TooHigh, high[0]))
                    continue
                lowers = [[] for _ in count]
                for number, degree in enumerate(count):
                    for at in range(len(count) - 1, number, -1):
                        if 2 * degree > most:
                            lowers[at].append(number)
                            degree = 1
                        degree *= 2
                self.assertEqual(least_lowers(saying, most), tuple(map(tuple, lowers)))

    def test_degrees_are_those_of_section_7(self):
        for seed in range(100):
            saying = Saying(some_saying(numbers(seed), things=8))
            body = body_text(saying)
            if len(body) > 200:
                continue
            names = 'abcde'[:len(saying.names)]
            book = Book(f"prime 3\nlet f {' '.join(names)} = : {body}\nlet out = : 1")
            for most in (2, 3, 4):
                high = [degree_in(book, 'f', name) for name in names if degree_in(book, 'f', name) > most]
                if high:
                    self.assertEqual(said_by(self, least_lowers, {'saying': saying, 'most': most}).value, high[0])
                else:
                    self.assertEqual(len(least_lowers(saying, most)), len(names))

    def test_edges(self):
        saying = Saying('all x some y : ' + '&'.join(['x'] * 3 + ['y']))
        self.assertEqual(said_by(self, least_lowers, {'saying': saying, 'most': 2}).value, 3)
        for most, lowers in ((3, ((), (0,))), (5, ((), (0,))), (6, ((), ())), (1000, ((), ()))):
            self.assertEqual(least_lowers(saying, most), lowers)
        self.assertEqual(least_lowers(Saying('all x : x'), 2), ((),))
        # The first name counts, not the greatest degree.
        saying = Saying('all x some y : x&x&x&y&y&y&y')
        self.assertEqual(said_by(self, least_lowers, {'saying': saying, 'most': 2}).value, 3)
        self.assertEqual(said_by(self, least_lowers, {'saying': saying, 'most': 3}).value, 4)

    def test_names_that_do_not_stand_in_the_body(self):
        self.assertEqual(least_lowers(Saying('all x some y all z : y'), 2), ((), (), ()))


if __name__ == '__main__':
    unittest.main()
