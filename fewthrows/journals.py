"""Journals: all that was done on a desk as a text, and desks read from such texts."""

from fewthrows.desk import Desk
from fewthrows.errors import BadJournal, ThrowError
from fewthrows.texts import is_name, number_in

HEAD = 'journal'
UNDONE = 'undone'
MARK = 'mark'
# A book's text stands on one line, with this sign, which no book has, for each line feed.
BREAK = '|'


def deed_line(deed):
    """The line of a deed."""
    if deed[0] == 'lay':
        return ' '.join([deed[0], deed[1], deed[2].replace('\n', BREAK)])
    parts = deed[2] if deed[0] == 'hear' else deed[2:]
    return ' '.join([deed[0], deed[1]] + [str(part) for part in parts])


def journal(desk):
    """The text of the desk."""
    lines = [HEAD] + [deed_line(deed) for deed in desk.deeds]
    if len(desk.undone) > 0:
        lines.append(UNDONE)
        lines.extend([deed_line(deed) for deed in desk.undone])
    for word in desk.marks:
        lines.append(' '.join([MARK, word, str(desk.places[word])]))
    return '\n'.join(lines)


def deed_in(line):
    """The deed that a line tells, if it tells one; whether it is one is seen when it is done."""
    words = line.split(' ')
    if words[0] == 'lay':
        return (words[0],) + tuple(words[1:2]) + (' '.join(words[2:]).replace(BREAK, '\n'),)
    if words[0] == 'hear':
        return (words[0],) + tuple(words[1:2]) + (tuple([number_in(word) for word in words[2:]]),)
    if words[0] == 'begin' or words[0] == 'throw':
        # Of a number that is none None is told, which is no residue.
        return tuple(words[:-1]) + (number_in(words[-1]),)
    return tuple(words)


class JournalReader:
    """Reads a journal line by line onto a desk, on which undone deeds are done until the end."""

    def __init__(self):
        self.desk = Desk()
        # How many deeds are done ahead of the line undone; None as long as there is none.
        self.done = None
        self.words = []

    def read_line(self, number, line):
        """Take in a line behind the first one."""
        words = line.split(' ')
        if words[0] == MARK:
            self.read_mark(number, words)
        elif len(self.words) > 0:
            raise BadJournal(number)
        elif line == UNDONE:
            if self.done is not None:
                raise BadJournal(number)
            self.done = len(self.desk.deeds)
        else:
            self.read_deed(number, line)

    def read_deed(self, number, line):
        """Take in the line of a deed."""
        try:
            self.desk.do(deed_in(line))
        except ThrowError:
            raise BadJournal(number) from None

    def read_mark(self, number, words):
        """Take in the words of a line of a mark."""
        if self.lacks_undone() or len(words) != 3 or not is_name(words[1]):
            raise BadJournal(number)
        place = number_in(words[2])
        if place is None or place > len(self.desk.deeds):
            raise BadJournal(number)
        if len(self.words) > 0 and words[1] <= self.words[-1]:
            raise BadJournal(number)
        self.words.append(words[1])
        self.desk.put_mark(words[1], place)

    def lacks_undone(self):
        """Whether the last line was undone, behind which a deed has to stand."""
        return self.done == len(self.desk.deeds)

    def read_end(self, number):
        """Undo what is undone; the number is that of the line behind the last one."""
        if self.lacks_undone():
            raise BadJournal(number)
        if self.done is not None:
            self.desk.back(len(self.desk.deeds) - self.done)


def read_journal(text):
    """The desk with this journal."""
    if not isinstance(text, str):
        raise BadJournal(0)
    lines = text.split('\n')
    if lines[0] != HEAD:
        raise BadJournal(1)
    reader = JournalReader()
    for number, line in enumerate(lines[1:], start=2):
        reader.read_line(number, line)
    reader.read_end(len(lines) + 1)
    return reader.desk
