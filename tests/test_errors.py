"""Point 19 and what point 2 says of errors."""

import inspect
import unittest

from fewthrows import errors
from fewthrows.errors import ThrowError
from tests.support import NO_NUMBERS

NAMES = '''
BadPrime BadResidue BadPolynomial BadPoints BadNoughts TooGreat BadTable BadPoint BadPlace BadBook BadName
BadWay OutOfTurn BadAsk NotPlain BadAnswers BadThrows HasCalls TooMany BadShare BadNumber BadCircuit BadSaying
BadLowers TooLong TooDeep TooHigh BadMatrix BadShape BadVector BadMatrices BadList BadRows Unequal TooFew
BadWidth BadPlaces BadValues BadJob BadMachine BadState BadPair BadRun BadChange NoWatch Spent BadWatch BadBits
Taken NoBook NoTalk BadAnswer Full BadDeed TooFar NoMark BadNames BadJournal
'''.split()


class Errors(unittest.TestCase):
    def test_all_names(self):
        found = [name for name, worth in vars(errors).items() if inspect.isclass(worth)]
        self.assertEqual(sorted(found), sorted(['ThrowError'] + NAMES))

    def test_bases(self):
        self.assertEqual(ThrowError.__bases__, (ValueError,))
        for name in NAMES:
            with self.subTest(name=name):
                error = getattr(errors, name)
                self.assertEqual(error.__bases__, (ThrowError,))
                self.assertEqual(error.__module__, 'fewthrows.errors')
                self.assertEqual(error.__name__, name)

    def test_value(self):
        for name in ['ThrowError'] + NAMES:
            error = getattr(errors, name)
            for value in NO_NUMBERS + [0, 1, 7, 'a\nb']:
                with self.subTest(name=name, value=str(value)[:60]):
                    self.assertIs(error(value).value, value)

    def test_only_argument(self):
        for name in ['ThrowError'] + NAMES:
            error = getattr(errors, name)
            with self.subTest(name=name):
                self.assertRaises(TypeError, error)
                self.assertRaises(TypeError, error, 1, 2)

    def test_caught_as_value_error(self):
        for name in NAMES:
            with self.subTest(name=name):
                error = getattr(errors, name)
                for caught in (error, ThrowError, ValueError):
                    with self.assertRaises(caught) as held:
                        raise error((1, [2]))
                    self.assertEqual(held.exception.value, (1, [2]))


if __name__ == '__main__':
    unittest.main()
