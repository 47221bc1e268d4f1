"""The desk: books and talks under names, and all that was done with them."""

from fewthrows.checks import is_integer
from fewthrows.deeds import Stand, book_of, check_name, copy_of, is_deed, stand_behind
from fewthrows.degrees import number_of, raw_rows_many
from fewthrows.errors import BadDeed, BadNames, BadNumber, Full, NoMark, TooFar

MOST_BOOKS = 12
MOST_TALKS = 40
MOST_DEEDS = 400


class Desk:
    """A desk.

    For the package itself: stands has the stand for each number of deeds, undone ones
    too; places has for each mark the number of deeds ahead of it.
    """

    def __init__(self):
        self.stands = [Stand({}, {})]
        self.places = {}
        self.deeds = ()
        self.undone = ()
        self.books = ()
        self.talks = ()
        self.marks = ()

    def do(self, deed):
        """Do the deed; deeds that were undone are dropped."""
        if not is_deed(deed):
            raise BadDeed(deed)
        stand = stand_behind(self._stand(), deed)
        many = len(self.deeds)
        if len(stand.books) > MOST_BOOKS or len(stand.talks) > MOST_TALKS or many == MOST_DEEDS:
            raise Full(deed)
        self.stands = self.stands[:many + 1] + [stand]
        self.places = {word: number for word, number in self.places.items() if number <= many}
        self._show(self.deeds + (deed,), ())

    def book_at(self, name):
        """The book that lies under the name."""
        return book_of(self._stand(), name)

    def talk_at(self, name):
        """A talk that stands where that under the name stands, and goes on by itself."""
        return copy_of(self._stand(), name)

    def back(self, many):
        """Undo so many deeds, the last ones."""
        self._go(-1, many, self.deeds)

    def on(self, many):
        """Do so many deeds again that have been undone."""
        self._go(1, many, self.undone)

    def mark(self, word):
        """Put a mark behind the deeds that are done now."""
        check_name(word)
        self.put_mark(word, len(self.deeds))

    def to(self, word):
        """Go back, or on, to the mark."""
        if not isinstance(word, str) or word not in self.places:
            raise NoMark(word)
        self._go_to(self.places[word])

    def all_let(self, names):
        """Of how many rows of throws all these talks let their one wrong value, and of how many in all."""
        talks = self._talks_of(names)
        alike = [talk for talk in talks if (talk.book.text, talk.value) == (talks[0].book.text, talks[0].value)]
        if len(alike) < len(talks):
            raise BadNames(names)
        many = rows = 1
        for talk in talks:
            many = many * number_of(talk.book)
            rows = rows * raw_rows_many(talk.book)
        return (many, rows)

    def any_let(self, names):
        """Of how many rows of throws all these talks let their values, if one is wrong, and of how many in all."""
        many, rows = 0, 1
        for talk in self._talks_of(names):
            own = raw_rows_many(talk.book)
            # The greatest one so far, with all rows of this talk; or this one, with all rows of those.
            many = max(many * own, number_of(talk.book) * rows)
            rows = rows * own
        return (many, rows)

    def put_mark(self, word, number):
        """Put a mark, for the package itself, behind so many deeds."""
        self.places = {**self.places, word: number}
        self._show(self.deeds, self.undone)

    def _stand(self):
        """The stand as it is now."""
        return self.stands[len(self.deeds)]

    def _show(self, deeds, undone):
        """Show these deeds as done and undone, and what is there by then."""
        self.deeds = deeds
        self.undone = undone
        self.books = tuple(sorted(self._stand().books))
        self.talks = tuple(sorted(self._stand().talks))
        self.marks = tuple(sorted(self.places))

    def _go(self, way, many, deeds):
        """Go over so many of these deeds, back if way is -1, on if it is 1."""
        if not is_integer(many) or many < 1:
            raise BadNumber(many)
        if many > len(deeds):
            raise TooFar(many)
        self._go_to(len(self.deeds) + way * many)

    def _go_to(self, number):
        """Go to where so many deeds are done."""
        deeds = self.deeds + self.undone
        self._show(deeds[:number], deeds[number:])

    def _talks_of(self, names):
        """The talks with these names, which have to be an ascending tuple of some."""
        talks = self._stand().talks
        if not isinstance(names, tuple) or len(names) == 0:
            raise BadNames(names)
        if not all([isinstance(name, str) and name in talks for name in names]):
            raise BadNames(names)
        if not all([one < other for one, other in zip(names, names[1:])]):
            raise BadNames(names)
        return [talks[name] for name in names]
