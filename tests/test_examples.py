"""The examples, as the document prints them."""

import doctest
import pathlib
import unittest

FOLDER = pathlib.Path(__file__).parent / 'examples'


class Examples(unittest.TestCase):
    def test_all(self):
        files = sorted(FOLDER.glob('section_*.txt'))
        self.assertGreaterEqual(len(files), 8)
        for file in files:
            with self.subTest(file=file.name):
                failed, tried = doctest.testfile(str(file), module_relative=False, report=True)
                self.assertEqual(failed, 0)
                self.assertGreater(tried, 0)


if __name__ == '__main__':
    unittest.main()
