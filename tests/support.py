"""What several test files use: wrong values of all kinds, and how they are tried."""

import copy
import random

from fewthrows.errors import ThrowError

DEEP = ()
for _ in range(60):
    DEEP = (DEEP,)

# Values that are no prime and no residue, and no tuple of residues but for ().
NO_NUMBERS = [
    True, False, None, '', '3', 'abc', [], [3], [0, 1], (True,), (False, False), (None,), ('1',),
    ([],), ((),), ((1,),), (0, True), (1, None), (1, '2'), (1, [2]), (1, (2,)), (1, {}), {}, {0: 1}, {'a': ()},
    (), object(), (object(),), ThrowError(3), (ThrowError(1), 0), DEEP, [DEEP], -1, -(10 ** 299), 10 ** 299,
    (-1,), (0, -1), (10 ** 299,), (3, 10 ** 299), range(3), 2.0, 3.0, b'a',
]

# Values that are no name, of a table, function, parameter or whatever.
NO_NAMES = NO_NUMBERS + [
    0, 1, 'A', 'aB', 'a b', ' a', 'a ', 'a1', 'a_', 'ninelette', 'z' * 100, '\n', 'a\n', ('a',), ['a'], {'a': 1}, b'a',
]

NO_PRIMES = NO_NUMBERS + [0, 1, 2, 4, 9, 15, 1000001, 1000002, 1000004, 1000005, 1000033]


def numbers(seed):
    """The same row of numbers for the same seed, on each Python."""
    return random.Random(seed)


def residues(source, prime, many):
    return tuple(source.randrange(prime) for _ in range(many))


def value_by_powers(prime, poly, residue):
    """The value of a polynomial, as the document writes it."""
    return sum(part * residue ** power for power, part in enumerate(poly)) % prime


class Wrong:
    """A function, right arguments in order, and (error, wrong values) for each.

    order has the names in the order in which their errors come, where it is not that of the parameters.
    """

    def __init__(self, function, right, wrong, order=None):
        self.function = function
        self.right = right
        self.wrong = wrong
        self.order = order.split() if order else list(wrong)
        assert sorted(self.order) == sorted(wrong), function
        # Books and talks have no wrong values; the others stand in their order.
        assert [name for name in right if name in wrong] == list(wrong), function


def said_by(test, function, arguments):
    """The ThrowError that the call raises."""
    with test.assertRaises(ThrowError) as caught:
        function(**arguments)
    return caught.exception


def try_wrong(test, case):
    """Each wrong value alone raises its error with this very value."""
    test.assertIsNotNone(case.function(**case.right))
    for name, (error, values) in case.wrong.items():
        for value in values:
            with test.subTest(function=case.function.__name__, name=name, value=str(value)[:60]):
                before = copy.deepcopy(value) if isinstance(value, (list, dict)) else None
                raised = said_by(test, case.function, {**case.right, name: value})
                test.assertIs(raised.__class__, error)
                test.assertIs(raised.value, value)
                if before is not None:
                    test.assertEqual(value, before)


def try_order(test, case):
    """Of several wrong values the one whose error comes first is told."""
    names = case.order
    for at, first in enumerate(names):
        error, values = case.wrong[first]
        for later in names[at + 1:]:
            for value in values[:4]:
                wrong = case.wrong[later][1][-1]
                with test.subTest(function=case.function.__name__, first=first, later=later, value=value):
                    raised = said_by(test, case.function, {**case.right, first: value, later: wrong})
                    test.assertIs(raised.__class__, error)
                    test.assertIs(raised.value, value)
        rest = {name: case.wrong[name][1][-1] for name in names[at:]}
        raised = said_by(test, case.function, {**case.right, **rest})
        test.assertIs(raised.__class__, error)
        test.assertIs(raised.value, rest[first])


def try_by_position(test, case):
    """By position it returns what it returns by name, each time that it is called."""
    value = case.function(**case.right)
    test.assertEqual(case.function(*case.right.values()), value)
    test.assertEqual(case.function(**dict(reversed(list(case.right.items())))), value)


class TriedCases:
    """Tests of the cases of a TestCase that has them as its cases."""

    def test_each_alone(self):
        for case in self.cases:
            try_wrong(self, case)

    def test_first_is_told(self):
        for case in self.cases:
            try_order(self, case)

    def test_by_position_and_name(self):
        for case in self.cases:
            # Two objects of a class of which nothing is said are not equal.
            if not isinstance(case.function, type):
                try_by_position(self, case)
