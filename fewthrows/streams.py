"""Streams of changes: a checker keeps one residue for each call of a table, and no table."""

from fewthrows.books import Book
from fewthrows.checks import check_residue, is_integer
from fewthrows.errors import BadChange, BadWatch, NoWatch, Spent
from fewthrows.polynomials import raw_scaled, raw_sum, raw_value
from fewthrows.residues import raw_inverse
from fewthrows.tables import is_place, names_many, raw_table_value, raw_weight
from fewthrows.talks import Talk, meaning_of
from fewthrows.tellers import check_throws, raw_honest


def is_change(book, value):
    """Whether value is a change of a table of the book."""
    if not isinstance(value, tuple) or len(value) != 3:
        return False
    table, place, by = value
    if not isinstance(table, str) or table not in book.reading.tables:
        return False
    return is_place(place) and len(place) == names_many(book.reading.tables[table]) and is_integer(by)


def index_of(place):
    """The index in a table at which the residue of the place stands."""
    index = 0
    for bit in place:
        index = 2 * index + bit
    return index


def changed_tables(book, changes):
    """The tables, as lists under their names, that the changes lead to."""
    tables = {name: list(table) for name, table in book.tables}
    for table, place, by in changes:
        residues = tables[table]
        index = index_of(place)
        residues[index] = (residues[index] + by) % book.prime
    return tables


def changed_line(line, tables):
    """The line of a book with these tables."""
    words = line.split(' ')
    if words[0] != 'table':
        return line
    return ' '.join(words[:2] + [str(residue) for residue in tables[words[1]]])


def changed_book(book, changes):
    """The book with the tables that the changes lead to, one after the other."""
    if not isinstance(changes, tuple):
        raise BadChange(-1)
    for number, change in enumerate(changes):
        if not is_change(book, change):
            raise BadChange(number)
    tables = changed_tables(book, changes)
    return Book('\n'.join([changed_line(line, tables) for line in book.text.split('\n')]))


def result_line(book):
    """The line of the result."""
    return book.reading.functions[book.reading.result]


def table_calls(line):
    """The different calls of tables, (table, arguments), as they first stand in the body."""
    calls = []
    for order in line.program:
        if order[0] == 'table' and order[1:] not in calls:
            calls.append(order[1:])
    return calls


def can_be_watched(book):
    """Whether the result is a sum over calls of tables whose arguments are names."""
    line = result_line(book)
    if len(line.calls) > 0 or not all([word == 'sum' for word, name in line.operators]):
        return False
    return all([isinstance(part, str) for table, arguments in table_calls(line) for part in arguments])


def check_watched(book):
    """Raise NoWatch unless the book can be watched."""
    if not can_be_watched(book):
        raise NoWatch(book)


def point_kept(book, throws, arguments):
    """The residues of these names at the kept point."""
    names = [name for word, name in result_line(book).operators]
    return tuple([throws[names.index(argument)] for argument in arguments])


def first_cells(book, throws):
    """The cells as they are ahead of all changes."""
    cells = []
    for table, arguments in table_calls(result_line(book)):
        point = point_kept(book, throws, arguments)
        residue = raw_table_value(book.prime, book.reading.tables[table], point)
        cells.append((table, arguments, residue))
    return tuple(cells)


class CellTalk(Talk):
    """A talk whose checker has cells in the place of the values of tables."""

    def __init__(self, book, value, cells):
        # A talk without rounds looks at them as soon as it begins.
        self.cells = cells
        Talk.__init__(self, book, value)

    def _body_value(self, told):
        """The value of the body, its calls of tables having the residues of the cells."""
        values = {(table, arguments): residue for table, arguments, residue in self.cells}
        line = result_line(self.book)
        return meaning_of(self.book).body_value(line.program, dict(self.claims[0][1]), values)


class KeptTalk:
    """A talk about a watch's book, as its changes made it; its throws are those that were kept."""

    def __init__(self, watch, value):
        self.inner = CellTalk(watch.book, value, watch.cells)
        self.kept = watch.throws
        self.ask = self.inner.ask
        self.told = ()

    def hear(self, answer):
        """The teller answers the ask, and hears the next throw unless it is refused."""
        self.inner.hear(answer)
        if self.inner.ask == ('throw',):
            self.inner.throw(self.kept[len(self.told)])
        self.ask = self.inner.ask
        self.told = self.inner.throws


class Watch:
    """What a checker keeps of a book's tables while they change: a residue for each call."""

    def __init__(self, book, throws):
        check_watched(book)
        check_throws(book, throws, book.plan.throws)
        self.book = book
        self.throws = throws
        self.cells = first_cells(book, throws)
        self.spent = False

    def change(self, table, place, by):
        """The residue of the table at the place grows by so much."""
        self._check_not_spent()
        if not is_change(self.book, (table, place, by)):
            raise BadChange(0)
        self.cells = tuple([self._changed_cell(cell, table, place, by) for cell in self.cells])

    def joined(self, other):
        """A new watch with the changes of both."""
        self._check_not_spent()
        if not isinstance(other, Watch):
            raise BadWatch(other)
        other._check_not_spent()
        if self.book != other.book or self.throws != other.throws:
            raise BadWatch(other)
        both = Watch(self.book, self.throws)
        prime = self.book.prime
        # The residues of both have what was there at first, which counts once alone.
        both.cells = tuple([
            (table, arguments, (one[2] + two[2] - first) % prime)
            for (table, arguments, first), one, two in zip(both.cells, self.cells, other.cells)
        ])
        return both

    def talk(self, value):
        """Begin the talk about this value of the changed result; the watch is spent by that."""
        self._check_not_spent()
        kept = KeptTalk(self, value)
        self.spent = True
        return kept

    def _check_not_spent(self):
        """Raise Spent if a talk was begun."""
        if self.spent:
            raise Spent(self.cells)

    def _changed_cell(self, cell, table, place, by):
        """The cell behind a change."""
        name, arguments, residue = cell
        if name != table:
            return cell
        weight = raw_weight(self.book.prime, place, point_kept(self.book, self.throws, arguments))
        return (name, arguments, (residue + by * weight) % self.book.prime)


def knowing_difference(prime, lack, degree, throw):
    """A polynomial whose values at 0 and 1 add up to lack, and that is 0 at the throw if it can be."""
    half = (prime + 1) // 2
    if degree == 0 or (degree == 1 and throw == half):
        return (lack * half % prime,)
    if throw == half:
        # lack * x * (2 * x - 1) is 0 at 0 and one half, and lack at 1.
        return (0, -lack % prime, 2 * lack % prime)
    # x - throw is -throw at 0, and 1 - throw at 1.
    factor = lack * raw_inverse(prime, (1 - 2 * throw) % prime)
    return raw_scaled(prime, (-throw % prime, 1), factor)


def knowing_answer(talk, throw):
    """An answer that keeps the check; the next claim is right if the throw lets it be."""
    prime = talk.book.prime
    honest = raw_honest(talk.book, talk.ask)
    true = raw_value(prime, honest, 0) + raw_value(prime, honest, 1)
    lack = (talk.claims[0][2] - true) % prime
    return raw_sum(prime, honest, knowing_difference(prime, lack, len(honest) - 1, throw))


def check_known(book, value, throws):
    """Raise NoWatch, BadResidue or BadThrows unless a talk can be held with these."""
    check_watched(book)
    check_residue(book.prime, value)
    check_throws(book, throws, book.plan.throws)


def knowing_answers(book, value, throws):
    """What somebody tells who knows all throws: ('let', answers), or ('never',)."""
    check_known(book, value, throws)
    talk = Talk(book, value)
    answers = []
    for residue in throws:
        if talk.ask[0] == 'polynomial':
            answers.append(knowing_answer(talk, residue))
            talk.hear(answers[-1])
            talk.throw(residue)
    if talk.ask != ('over', 'let'):
        return ('never',)
    return ('let', tuple(answers))


def shows_knowing(book, value, throws, answers):
    """Whether answers are such by which the talk at these throws lets the value."""
    check_known(book, value, throws)
    if not isinstance(answers, tuple) or len(answers) != len(throws):
        return False
    talk = Talk(book, value)
    for answer, residue in zip(answers, throws):
        talk.hear(answer)
        if talk.ask != ('throw',):
            return False
        talk.throw(residue)
    return talk.ask == ('over', 'let')
