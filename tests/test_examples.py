"""The examples, as the document prints them, and those of README.md."""

import doctest
import pathlib
import unittest

FOLDER = pathlib.Path(__file__).parent / 'examples'
README = pathlib.Path(__file__).parent.parent / 'README.md'


class Examples(unittest.TestCase):
    def test_all(self):
        files = sorted(FOLDER.glob('section_*.txt'))
        self.assertGreaterEqual(len(files), 15)
        for file in files:
            with self.subTest(file=file.name):
                failed, tried = doctest.testfile(str(file), module_relative=False, report=True)
                self.assertEqual(failed, 0)
                self.assertGreater(tried, 0)

    def test_readme(self):
        blocks = README.read_text('utf-8').split('```\n')[1::2]
        text = '\n'.join(block for block in blocks if block.startswith('>>> '))
        test = doctest.DocTestParser().get_doctest(text, {}, 'README', str(README), 0)
        self.assertGreater(len(test.examples), 20)
        self.assertEqual(doctest.DocTestRunner().run(test).failed, 0)


if __name__ == '__main__':
    unittest.main()
