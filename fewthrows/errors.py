"""The errors of the package."""


class ThrowError(ValueError):
    """All errors of the package; the argument is kept as value."""

    def __init__(self, value):
        self.value = value


class BadPrime(ThrowError):
    """What is passed as a prime is no odd prime from 3 to 1000003."""


class BadResidue(ThrowError):
    """What is passed as a residue is none, or not one that is asked for."""


class BadPolynomial(ThrowError):
    """What is passed as a polynomial is none."""


class BadPoints(ThrowError):
    """What is passed as points is no tuple of pairs with unlike first residues."""


class BadNoughts(ThrowError):
    """What is passed as noughts is no ascending tuple of residues."""


class TooGreat(ThrowError):
    """The prime is greater than the one that is kept as value."""


class BadTable(ThrowError):
    """What is passed as a table is none, or not one that is asked for."""


class BadPoint(ThrowError):
    """What is passed as a point is not a tuple of as many residues as are asked for."""


class BadPlace(ThrowError):
    """What is passed as a place is none."""


class BadBook(ThrowError):
    """The text is no book; the number of the line is kept."""


class BadName(ThrowError):
    """What is passed as a name is none, or not one that is asked for."""


class BadWay(ThrowError):
    """What is passed as a way is no way of the book."""


class OutOfTurn(ThrowError):
    """The talk does not wait for this; what it asks for is kept."""


class BadAsk(ThrowError):
    """What is passed as an ask is none of this book."""


class NotPlain(ThrowError):
    """The book is not plain."""


class BadAnswers(ThrowError):
    """What is passed as answers is no answer book."""


class BadThrows(ThrowError):
    """What is passed as throws is not a tuple of as many residues as are asked for."""


class HasCalls(ThrowError):
    """The result calls a function, whose name is kept."""


class TooMany(ThrowError):
    """There are more than the number that is kept."""


class BadShare(ThrowError):
    """What is passed as a share is none."""


class BadNumber(ThrowError):
    """What is passed as a number is no integer as it is asked for."""


class BadCircuit(ThrowError):
    """The text is no circuit; the number of the line is kept."""


class BadSaying(ThrowError):
    """The text is no saying; the number of the sign is kept."""


class BadLowers(ThrowError):
    """What is passed as lowers is not such a tuple."""


class TooLong(ThrowError):
    """The text has more signs than the number that is kept."""


class TooDeep(ThrowError):
    """Brackets are nested deeper than the number that is kept."""


class TooHigh(ThrowError):
    """A degree is above the bound; the degree is kept."""


class BadMatrix(ThrowError):
    """What is passed as a matrix is none."""


class BadShape(ThrowError):
    """The shapes of matrices do not fit; the pair is kept."""


class BadVector(ThrowError):
    """What is passed as a vector is none of the wanted length."""


class BadMatrices(ThrowError):
    """What is passed as matrices is no tuple of one to eight parts."""


class BadList(ThrowError):
    """What is passed as a list is none."""


class BadRows(ThrowError):
    """What is passed as a list of rows is none."""


class Unequal(ThrowError):
    """Lists have to be equally long and are not; the pair of lengths is kept."""


class TooFew(ThrowError):
    """There are fewer residues than entries; the prime is kept."""


class BadWidth(ThrowError):
    """Rows have to be equally long and are not; the pair of lengths is kept."""


class BadPlaces(ThrowError):
    """What is passed as places is not a tuple of as many residues."""


class BadValues(ThrowError):
    """What is passed as first values is not a tuple of such values."""


class BadJob(ThrowError):
    """What is passed as a job is none."""


class BadMachine(ThrowError):
    """The text is no machine; the number of the line is kept."""


class BadState(ThrowError):
    """What is passed as a state is none of this machine."""


class BadPair(ThrowError):
    """What is passed as a pair is neither None nor a pair of integers from 0 on."""


class BadRun(ThrowError):
    """What is passed as a run is no told run of this machine."""


class BadChange(ThrowError):
    """What is passed as changes is none; the number of the first wrong one is kept."""


class NoWatch(ThrowError):
    """The book cannot be watched."""


class Spent(ThrowError):
    """The watch is spent; its cells are kept."""


class BadWatch(ThrowError):
    """What is passed as a watch is none that can be joined."""


class BadBits(ThrowError):
    """What is passed as a bit table is none."""


class Taken(ThrowError):
    """The name is in use on the desk."""


class NoBook(ThrowError):
    """No book lies under the name."""


class NoTalk(ThrowError):
    """No talk has the name."""


class BadAnswer(ThrowError):
    """What is passed as an answer is not a tuple of at most 201 residues."""


class Full(ThrowError):
    """The desk is full; the deed is kept."""


class BadDeed(ThrowError):
    """What is passed as a deed is none."""


class TooFar(ThrowError):
    """There are not so many deeds to go."""


class NoMark(ThrowError):
    """There is no mark with the word."""


class BadNames(ThrowError):
    """What is passed as names is not such a tuple of names of talks."""


class BadJournal(ThrowError):
    """The text is no journal; the number of the line is kept."""
