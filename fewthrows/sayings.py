"""Sayings with all and some, and the books that tell whether they are true.

The body of a saying is kept as a tree: ('name', number), ('not', thing), ('and', things)
and ('or', things), without the brackets of the text.
"""

from fewthrows.bodies import MOST_BRACKETS, MOST_SIGNS
from fewthrows.checks import check_prime, is_integer
from fewthrows.errors import BadLowers, BadNumber, BadSaying, TooDeep, TooHigh, TooLong
from fewthrows.texts import LETTERS, MOST_LETTERS

MOST_NAMES = 5
MOST_IN_BODY = 12
MOST_NESTED = 10
LEAST_DEGREE = 2
GREATEST_DEGREE = 1000
WANTS = ('all', 'some')
# The names of a saying, in its book.
BOOK_NAMES = 'abcde'


class SayingReader:
    """Reads a saying from the left to the right; the first sign that cannot stand is a BadSaying."""

    def __init__(self, text):
        self.text = text
        self.place = 0
        self.names = []
        self.wants = []
        self.used = 0

    def sign(self):
        """The sign at hand; behind the last one ''."""
        return self.text[self.place:self.place + 1]

    def skip(self, word):
        """Go behind this word, which has to stand here, sign by sign."""
        for sign in word:
            if self.sign() != sign:
                raise BadSaying(self.place)
            self.place += 1

    def head(self):
        """Read all that stands ahead of the body."""
        self.wanted()
        while len(self.names) < MOST_NAMES and self.sign() != ':':
            self.wanted()
        self.skip(': ')

    def wanted(self):
        """Read all or some, and its name."""
        want = 'some' if self.sign() == 's' else 'all'
        self.skip(want + ' ')
        self.wants.append(want)
        self.names.append(self.new_name())
        self.skip(' ')

    def new_name(self):
        """Read a name that is unlike all names so far; returns it."""
        start = self.place
        while self.sign() in tuple(LETTERS) and self.place < start + MOST_LETTERS:
            self.place += 1
        name = self.text[start:self.place]
        if name in self.names and len(name) == MOST_LETTERS:
            # No letter can follow that makes it another name.
            raise BadSaying(self.place - 1)
        if name == '' or name in WANTS or name in self.names:
            raise BadSaying(self.place)
        return name

    def disjunction(self, depth):
        """Read things that are joined by |, nested so deep; returns the tree."""
        things = [self.conjunction(depth)]
        while self.sign() == '|' and self.used < MOST_IN_BODY:
            self.skip('|')
            things.append(self.conjunction(depth))
        return things[0] if len(things) == 1 else ('or', tuple(things))

    def conjunction(self, depth):
        """Read things that are joined by &; returns the tree."""
        things = [self.thing(depth)]
        while self.sign() == '&' and self.used < MOST_IN_BODY:
            self.skip('&')
            things.append(self.thing(depth))
        return things[0] if len(things) == 1 else ('and', tuple(things))

    def thing(self, depth):
        """Read a name, a thing in brackets, or one behind !; returns the tree."""
        if self.sign() not in ('!', '('):
            return ('name', self.names.index(self.old_name()))
        if depth == MOST_NESTED:
            raise BadSaying(self.place)
        if self.sign() == '!':
            self.skip('!')
            return ('not', self.thing(depth + 1))
        self.skip('(')
        tree = self.disjunction(depth + 1)
        self.skip(')')
        return tree

    def old_name(self):
        """Read one of the names, as long as one can go on; returns it."""
        start = self.place
        while self.sign() != '' and self.begins_name(self.text[start:self.place + 1]):
            self.place += 1
        name = self.text[start:self.place]
        if name not in self.names:
            raise BadSaying(self.place)
        self.used += 1
        return name

    def begins_name(self, word):
        """Whether one of the names begins with word."""
        return any([name.startswith(word) for name in self.names])


class Saying:
    """A saying; tree is for the package itself."""

    def __init__(self, text):
        if not isinstance(text, str):
            raise BadSaying(-1)
        reader = SayingReader(text)
        reader.head()
        self.tree = reader.disjunction(0)
        if reader.place < len(text):
            raise BadSaying(reader.place)
        self.text = text
        self.names = tuple(reader.names)
        self.wants = tuple(reader.wants)

    def __eq__(self, other):
        return isinstance(other, Saying) and self.text == other.text


def tree_holds(tree, bits):
    """Whether the tree is true, each name having its bit."""
    if tree[0] == 'name':
        return bits[tree[1]]
    if tree[0] == 'not':
        return not tree_holds(tree[1], bits)
    holds = [tree_holds(thing, bits) for thing in tree[1]]
    return all(holds) if tree[0] == 'and' else any(holds)


def holds_behind(saying, bits):
    """Whether the saying is true from the next name on, those ahead of it having these bits."""
    if len(bits) == len(saying.names):
        return tree_holds(saying.tree, bits)
    both = [holds_behind(saying, bits + (bit,)) for bit in (False, True)]
    return all(both) if saying.wants[len(bits)] == 'all' else any(both)


def is_true(saying):
    """Whether the saying is true."""
    return holds_behind(saying, ())


def tree_text(tree):
    """The tree as a part of a body of a book."""
    if tree[0] == 'name':
        return BOOK_NAMES[tree[1]]
    if tree[0] == 'not':
        return '(1-' + tree_text(tree[1]) + ')'
    things = [tree_text(thing) for thing in tree[1]]
    if tree[0] == 'and':
        return '(' + '*'.join(things) + ')'
    return '(1-' + '*'.join(['(1-' + thing + ')' for thing in things]) + ')'


def body_text(saying):
    """The saying's body as a body of a book."""
    return tree_text(saying.tree)


def brackets_deep(text):
    """How deep the brackets of the text are nested."""
    deepest = 0
    depth = 0
    for sign in text:
        if sign == '(':
            depth += 1
            deepest = max(deepest, depth)
        elif sign == ')':
            depth -= 1
    return deepest


def are_lowers_of(value, number):
    """Whether value is an ascending tuple of numbers of names, up to this number."""
    if not isinstance(value, tuple) or not all([is_integer(part) for part in value]):
        return False
    if not all([0 <= part <= number for part in value]):
        return False
    return all([one < other for one, other in zip(value, value[1:])])


def check_lowers(saying, value):
    """Raise BadLowers unless value are lowers of the saying."""
    if not isinstance(value, tuple) or len(value) != len(saying.names):
        raise BadLowers(value)
    if not all([are_lowers_of(part, number) for number, part in enumerate(value)]):
        raise BadLowers(value)


def name_line(saying, number, lowered, body):
    """The line of the function of the name with this number."""
    words = ['let', 'q' + BOOK_NAMES[number]] + list(BOOK_NAMES[:number])
    words.extend(['=', saying.wants[number], BOOK_NAMES[number]])
    for lower in lowered:
        words.extend(['low', BOOK_NAMES[lower]])
    return ' '.join(words + [':', body])


def saying_book(saying, prime, lowers):
    """The text of a book whose result is 1 if the saying is true, otherwise 0."""
    check_prime(prime)
    check_lowers(saying, lowers)
    body = body_text(saying)
    if len(body) > MOST_SIGNS:
        raise TooLong(MOST_SIGNS)
    if brackets_deep(body) > MOST_BRACKETS:
        raise TooDeep(MOST_BRACKETS)
    lines = ['prime ' + str(prime)]
    for number in reversed(range(len(saying.names))):
        lines.append(name_line(saying, number, lowers[number], body))
        body = 'q' + BOOK_NAMES[number] + '[' + ','.join(BOOK_NAMES[:number]) + ']'
    return '\n'.join(lines)


def full_lowers(saying):
    """All lowers: behind each name this one and all ahead of it."""
    return tuple([tuple(range(number + 1)) for number in range(len(saying.names))])


def many_times(tree, number):
    """How often the name with this number stands in the tree: its degree in the text."""
    if tree[0] == 'name':
        return 1 if tree[1] == number else 0
    if tree[0] == 'not':
        return many_times(tree[1], number)
    return sum([many_times(thing, number) for thing in tree[1]])


def lowered_behind(degree, number, last, most):
    """Behind which names, up to the last one, the name with this number and degree is lowered."""
    behind = []
    for at in range(last, number, -1):
        if 2 * degree > most:
            behind.append(at)
            degree = 2
        else:
            degree = 2 * degree
    return behind


def least_lowers(saying, most):
    """The fewest lowers with which no round has a degree above most."""
    if not is_integer(most) or not LEAST_DEGREE <= most <= GREATEST_DEGREE:
        raise BadNumber(most)
    numbers = list(range(len(saying.names)))
    degrees = [many_times(saying.tree, number) for number in numbers]
    for degree in degrees:
        if degree > most:
            raise TooHigh(degree)
    behind = [lowered_behind(degrees[number], number, numbers[-1], most) for number in numbers]
    return tuple([
        tuple([number for number in numbers if at in behind[number]])
        for at in numbers
    ])
