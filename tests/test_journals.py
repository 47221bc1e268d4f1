"""Journals (points 18 and 3)."""

import re
import unittest

from fewthrows.desk import Desk
from fewthrows.errors import BadJournal
from fewthrows.journals import journal, read_journal
from tests.model import TEXTS, Model, is_name, seen, some_deed
from tests.support import NO_NUMBERS, numbers
from tests.test_desk import BEGIN, LAY, desk_with

NUMBER = '(0|[1-9][0-9]{0,8})'


def some_desk(source, many):
    """A desk and its model, led by many deeds, back and on, with marks."""
    desk, model = Desk(), Model()
    for _ in range(many):
        deed = some_deed(source, model)
        if model.error(deed) is None:
            desk.do(deed)
            model.do(deed)
        if source.random() < 0.12:
            word = source.choice(('a', 'here', 'mark', 'undone', 'zz'))
            desk.mark(word)
            model.marks[word] = len(model.deeds)
        if source.random() < 0.12:
            number = source.randint(0, len(model.deeds) + len(model.undone))
            if number < len(model.deeds):
                desk.back(len(model.deeds) - number)
            elif number > len(model.deeds):
                desk.on(number - len(model.deeds))
            model.go(number)
    return desk, model


def deed_of(line):
    """The deed of a line, by patterns for whole lines; None if it is none."""
    name = '([^ ]*)'
    match = re.fullmatch(f'lay {name} (.*)', line)
    if match:
        return 'lay', match[1], match[2].replace('|', '\n')
    for word, more in (('begin', f' {name} {name} {NUMBER}'), ('throw', f' {name} {NUMBER}'), ('branch', f' {name} {name}'), ('honest', f' {name}'), ('close', f' {name}')):
        match = re.fullmatch(word + more, line)
        if match:
            parts = list(match.groups())
            return (word, *parts[:-1], int(parts[-1]) if word in ('begin', 'throw') else parts[-1])
    match = re.fullmatch(f'hear {name}(( {NUMBER})*)', line)
    return ('hear', match[1], tuple(map(int, match[2].split()))) if match else None


def bad_line(text):
    """The number that BadJournal tells; None for a journal."""
    lines = text.split('\n')
    model, marks, undone = Model(), [], None
    if lines[0] != 'journal':
        return 1
    for number, line in enumerate(lines[1:], 2):
        match = re.fullmatch(f'mark ([^ ]*) {NUMBER}', line)
        if match:
            if not is_name(match[1]) or int(match[2]) > len(model.deeds) or marks and match[1] <= marks[-1] or undone == len(model.deeds):
                return number
            marks.append(match[1])
        elif marks:
            return number
        elif line == 'undone':
            if undone is not None:
                return number
            undone = len(model.deeds)
        else:
            deed = deed_of(line)
            if deed is None or model.error(deed) is not None:
                return number
            model.do(deed)
    return len(lines) + 1 if undone == len(model.deeds) else None


def number_of_bad(text):
    try:
        read_journal(text)
    except BadJournal as error:
        return error.value
    return None


class Journals(unittest.TestCase):
    def bad(self, number, *texts):
        for text in texts:
            with self.subTest(text=text):
                self.assertEqual(number_of_bad(text), number)
                self.assertEqual(bad_line(text), number)

    def test_text_is_a_string(self):
        for value in [wrong for wrong in NO_NUMBERS if not isinstance(wrong, str)] + [0, 1, ['journal'], ('journal',), Desk()]:
            with self.assertRaises(BadJournal) as caught:
                read_journal(value)
            self.assertEqual((caught.exception.value.__class__, caught.exception.value), (int, 0))

    def test_empty(self):
        self.assertEqual(journal(Desk()), 'journal')
        self.assertEqual(seen(read_journal('journal')), seen(Desk()))
        self.assertEqual(journal(desk=read_journal(text='journal')), 'journal')

    def test_to_the_letter(self):
        desk = desk_with(
            LAY, BEGIN, ('begin', 'n', 'b', 2), ('branch', 'n', 'o'), ('hear', 'n', ()), ('honest', 'o'), ('throw', 'o', 4), ('close', 'k'))
        lines = ['journal', 'lay b prime 5|table t 1 2|let out = sum x : t[x]*x', 'begin k b 3', 'begin n b 2', 'branch n o', 'hear n', 'honest o', 'throw o 4', 'close k']
        self.assertEqual(journal(desk), '\n'.join(lines))
        desk.mark('zz')
        desk.back(8)
        desk.mark('b')
        desk.on(3)
        desk.mark('mid')
        marks = ['mark b 0', 'mark mid 3', 'mark zz 8']
        self.assertEqual(journal(desk), '\n'.join(lines[:4] + ['undone'] + lines[4:] + marks))
        desk.back(3)
        self.assertEqual(journal(desk), '\n'.join(['journal', 'undone'] + lines[1:] + marks))
        desk.on(8)
        self.assertEqual(journal(desk), '\n'.join(lines + marks))

    def test_there_and_back(self):
        for seed in range(40):
            source = numbers(seed)
            desk, model = some_desk(source, 40)
            text = journal(desk)
            self.assertEqual(text, model.journal())
            other = read_journal(text)
            self.assertEqual(journal(other), text)
            self.assertEqual(seen(other), seen(desk))
            self.assertIsNone(bad_line(text))
            for _ in range(15):
                self.both(source, (desk, other), model)
            self.assertEqual(journal(other), journal(desk))

    def both(self, source, desks, model):
        """What is done with a desk and with the one that was read is alike."""
        way = source.random()
        deed = some_deed(source, model)
        for desk in desks:
            if way < 0.2 and model.marks:
                desk.to(sorted(model.marks)[0])
            elif way < 0.4 and model.undone:
                desk.on(1)
            elif way < 0.5 and model.deeds:
                desk.back(1)
            elif model.error(deed) is None:
                desk.do(deed)
        self.assertEqual(seen(desks[0]), seen(desks[1]))
        model.deeds, model.undone = list(desks[0].deeds), list(desks[0].undone)
        model.marks = {word: None for word in desks[0].marks}

    def test_undone(self):
        good = 'journal\nlay b ' + TEXTS[0].replace('\n', '|') + '\nbegin k b 3'
        self.bad(None, good, good + '\nundone\nhear k', good + '\nundone\nhear k 0 3 0\nthrow k 2', good.replace('journal', 'journal\nundone'))
        self.bad(5, good + '\nundone')
        self.bad(3, 'journal\nundone')
        self.bad(5, good + '\nundone\nundone', good + '\nundone\nundone\nhear k', good + '\nundone\nmark a 0', good + '\nundone\nmark', good + '\nundone\n')
        self.bad(6, good + '\nundone\nhear k\nundone', good + '\nundone\nhear k\nhear k', good + '\nundone\nhear k\nundone\nclose k')
        self.bad(3, 'journal\nundone\nundone', 'journal\nundone\nmark a 0', 'journal\nundone\nclose k')

    def test_marks(self):
        good = 'journal\nlay b ' + TEXTS[0].replace('\n', '|') + '\nbegin k b 3\nundone\nclose k'
        self.bad(None, 'journal\nmark a 0', good + '\nmark a 3', good + '\nmark a 0\nmark ab 3\nmark b 2', good + '\nmark undone 1', good + '\nmark mark 1')
        self.bad(6, good + '\nmark a 4', good + '\nmark a 1000', good + '\nmark a', good + '\nmark', good + '\nmark a 1 1', good + '\nmark a 01', good + '\nmark a -1',
                 good + '\nmark A 1', good + '\nmark ninelette 1', good + '\nmark  1', good + '\nmark a  1', good + '\nmark a 1 ', good + '\nmark a x', good + '\nmarks a 1')
        self.bad(7, good + '\nmark b 1\nmark a 1', good + '\nmark a 1\nmark a 2', good + '\nmark a 1\nclose k', good + '\nmark a 1\nundone', good + '\nmark a 1\n',
                 good + '\nmark a 1\nundone\nclose k', good + '\nmark a 1\nbegin m b 3')
        self.bad(2, 'journal\nmark a 1')
        self.bad(3, 'journal\nmark a 0\nlay b ' + TEXTS[0].replace('\n', '|'))

    def test_lines(self):
        self.bad(1, '', ' ', 'Journal', 'journal ', ' journal', '\njournal', 'journals', 'undone', 'lay b x')
        self.bad(2, 'journal\n', 'journal\n\n', 'journal\njournal', 'journal\nlay', 'journal\nlay b', 'journal\nlay b ', 'journal\nlay b x', 'journal\nhear k')
        text = TEXTS[0].replace('\n', '|')
        good = f'journal\nlay b {text}'
        self.bad(2, f'journal\nlay  {text}', f'journal\nlay b  {text}', f'journal\nlay b {text} ', f'journal\nlay b {text}|', f'journal\nlay B {text}', f'journal\nlay {text}',
                 f'journal\n lay b {text}', f'journal\nlay b c {text}', f'journal\nput b {text}', f'journal\nLay b {text}')
        self.bad(3, good + '\nlay b ' + text, *[good + '\n' + line for line in (
            'begin', 'begin k', 'begin k b', 'begin k b 5', 'begin k b 03', 'begin k b 3 3', 'begin k c 3', 'begin k b x', 'begin K b 3', 'begin  b 3', 'begin k b ',
            'begin k b -1', 'begin k b 3 ', ' begin k b 3', 'hear k', 'honest k', 'throw k 1', 'branch k m', 'close k', 'close', 'undone ', 'undone x', 'Undone',
            'begin k b 1000000003', 'begin k|b 3')])
        begun = good + '\nbegin k b 3'
        self.bad(None, begun, begun + '\nhear k', begun + '\nhear k 0 3 0', begun + '\nhear k' + ' 0' * 201, begun + '\nhonest k', begun + '\nbranch k m', begun + '\nclose k')
        self.bad(4, *[begun + '\n' + line for line in (
            'hear', 'hear ', 'hear k ', 'hear k  0', 'hear k 0 5', 'hear k 0 05', 'hear k 0 -1', 'hear k 0 x', 'hear k 0 3 0 ', 'hear m 0', 'hear k' + ' 0' * 202, 'hear  0',
            'honest', 'honest k 0', 'honest m', 'throw k 1', 'throw k', 'branch k', 'branch k k', 'branch k K', 'branch k m n', 'branch m k', 'close m', 'close k k', 'begin k b 2',
            'hear k 1000000000', 'hear k 0|3|0', 'hear k (0,3,0)', 'branch k ', 'branch  k')])
        heard = begun + '\nhear k 0 3 0'
        self.bad(None, heard + '\nthrow k 4', heard + '\nthrow k 0')
        self.bad(5, *[heard + '\n' + line for line in ('throw k 5', 'throw k 04', 'throw k', 'throw k 1 1', 'throw k -1', 'throw k x', 'hear k 0 3 0', 'honest k', 'throw k ')])
        self.bad(6, heard + '\nthrow k 2\nthrow k 2', heard + '\nthrow k 2\nhonest k')

    def test_400_and_401(self):
        deeds = ['lay b ' + TEXTS[0].replace('\n', '|')] + ['begin k b 3', 'hear k', 'close k'] * 133
        text = '\n'.join(['journal'] + deeds)
        self.assertEqual(journal(read_journal(text)), text)
        self.assertEqual(number_of_bad(text + '\nbegin k b 3'), 402)
        for done in (0, 7, 399):
            undone = '\n'.join(['journal'] + deeds[:done] + ['undone'] + deeds[done:])
            desk = read_journal(undone)
            self.assertEqual((len(desk.deeds), len(desk.undone), journal(desk)), (done, 400 - done, undone))
            self.assertEqual(number_of_bad(undone + '\nbegin k b 3'), 403)
            self.assertEqual(number_of_bad(undone + '\nmark a 401'), 403)
            self.assertIsNone(number_of_bad(undone + '\nmark a 400'))

    def test_lines_out_twice_exchanged(self):
        bad = good = 0
        for seed in range(25):
            source = numbers(seed)
            desk, model = some_desk(source, 25)
            lines = journal(desk).split('\n')
            for at in range(len(lines)):
                other = source.randrange(len(lines))
                changed = list(lines)
                changed[at], changed[other] = changed[other], changed[at]
                sign = source.choice((' ', '0', 'k', '|', '9', ''))
                place = source.randrange(len(lines[at]) + 1)
                bent = lines[at][:place] + sign + lines[at][place + 1:]
                for told in (lines[:at] + lines[at + 1:], lines[:at + 1] + lines[at:], changed, lines[:at] + [bent] + lines[at + 1:]):
                    text = '\n'.join(told)
                    wanted = bad_line(text)
                    self.assertEqual(number_of_bad(text), wanted, text)
                    bad += wanted is not None
                    good += wanted is None
                    if wanted is None:
                        self.assertEqual(journal(read_journal(text)), text)
        self.assertGreater(bad, 300)
        self.assertGreater(good, 50)


if __name__ == '__main__':
    unittest.main()
