"""Talks: a checker asks, checks what it hears, throws residues, and goes on."""

from fewthrows.books import raw_called
from fewthrows.checks import are_residues, check_residue
from fewthrows.errors import OutOfTurn
from fewthrows.meanings import Meaning
from fewthrows.polynomials import raw_value
from fewthrows.rings import ResidueRing, joined

WAITING = ('line', 'polynomial', 'values')


def meaning_of(book):
    """What stands in the book, worked out in residues."""
    return Meaning(book.reading, ResidueRing(book.prime))


def known_along(prime, one, other, residue):
    """The same names twice, known at two points: known at one + residue * (other - one)."""
    return tuple([
        (start[0], (start[1] + residue * (end[1] - start[1])) % prime)
        for start, end in zip(one, other)
    ])


def residues_of(known):
    """The residues of known names, without the names."""
    return tuple([residue for name, residue in known])


def with_name(known, name, residue):
    """The known names with this one at this residue: in its place, or behind all others."""
    if name not in [other for other, old in known]:
        return known + ((name, residue),)
    return tuple([(other, residue if other == name else old) for other, old in known])


class Talk:
    """A talk about the claim that the result of book has this value."""

    def __init__(self, book, value):
        check_residue(book.prime, value)
        self.book = book
        self.value = value
        self.step = 0
        self.throws = ()
        self.claims = ((book.reading.result, (), value),)
        self.ask = ()
        # The polynomial that was heard last; the throw behind it tells where its value counts.
        self.heard = ()
        self._go_on()

    def hear(self, answer):
        """The teller answers the ask."""
        if self.ask[0] not in WAITING:
            raise OutOfTurn(self.ask)
        many = self._told_many()
        if not are_residues(self.book.prime, answer, many, many) or not self._passes_check(answer):
            self._refuse()
        elif self.ask[0] == 'values':
            self._open_claims(answer)
            self._go_on()
        else:
            self.heard = answer
            self.ask = ('throw',)

    def throw(self, residue):
        """The checker throws a residue, and goes on to the next step."""
        if self.ask != ('throw',):
            raise OutOfTurn(self.ask)
        prime = self.book.prime
        check_residue(prime, residue)
        step = self.book.plan.steps[self.step]
        value = raw_value(prime, self.heard, residue)
        known = self.claims[0][1]
        if step[0] == 'line':
            known = known_along(prime, known, self.claims[1][1], residue)
            self.claims = ((step[1], known, value),) + self.claims[2:]
        else:
            known = with_name(known, step[3], residue)
            self.claims = ((step[1], known, value),) + self.claims[1:]
        self.throws = self.throws + (residue,)
        self.step += 1
        self._go_on()

    def copy(self):
        """A talk that stands where this one stands, and goes on by itself."""
        twin = Talk(self.book, self.value)
        twin.ask = self.ask
        twin.step = self.step
        twin.throws = self.throws
        twin.claims = self.claims
        twin.heard = self.heard
        return twin

    def _told_many(self):
        """How many residues the answer has that is waited for."""
        step = self.book.plan.steps[self.step]
        if step[0] == 'parts':
            return len(step[2])
        return step[-1] + 1

    def _refuse(self):
        """End the talk at this step."""
        self.ask = ('over', 'refused', self.step)

    def _passes_check(self, answer):
        """Whether the answer, residues of the right number, keeps the check of the step."""
        step = self.book.plan.steps[self.step]
        known, value = self.claims[0][1:]
        if step[0] == 'parts':
            return self._body_value(answer) == value
        prime = self.book.prime
        low = raw_value(prime, answer, 0)
        high = raw_value(prime, answer, 1)
        if step[0] == 'line':
            return low == value and high == self.claims[1][2]
        at = dict(known).get(step[3], 0)
        return joined(ResidueRing(prime), step[2], low, high, at) == value

    def _body_value(self, told):
        """The value of the body of the step's function, its calls having the told values."""
        step = self.book.plan.steps[self.step]
        program = self.book.reading.functions[step[1]].program
        calls = {call: residue for call, residue in zip(step[2], told)}
        return meaning_of(self.book).body_value(program, dict(self.claims[0][1]), calls)

    def _open_claims(self, told):
        """Close the claim of the step, and open one for each call of its body."""
        functions = self.book.reading.functions
        opened = [
            (function, tuple(zip(functions[function].parameters, point)), residue)
            for (function, point), residue in zip(self._points_called(), told)
        ]
        # Sorting leaves claims of one function as they stand.
        claims = sorted(self.claims[1:] + tuple(opened), key=lambda claim: -functions[claim[0]].number)
        self.claims = tuple(claims)
        self.step += 1

    def _points_called(self):
        """The calls of the step's parts, (function, point), at the residues of the names."""
        names = dict(self.claims[0][1])
        meaning = meaning_of(self.book)
        calls = self.book.plan.steps[self.step][2]
        return tuple([(function, meaning.point_of(arguments, names)) for function, arguments in calls])

    def _go_on(self):
        """Close what needs no answer, and ask for what is next."""
        steps = self.book.plan.steps
        while self.step < len(steps) and steps[self.step][0] == 'parts' and steps[self.step][2] == ():
            if not self._passes_check(()):
                self._refuse()
                return
            self._open_claims(())
        self.ask = self._next_ask()

    def _next_ask(self):
        """The ask of the step at hand, or that the value is let."""
        if self.step == len(self.book.plan.steps):
            return ('over', 'let')
        step = self.book.plan.steps[self.step]
        known = self.claims[0][1]
        if step[0] == 'parts':
            return ('values', step[1], self._points_called(), self.step)
        if step[0] == 'line':
            ends = (residues_of(known), residues_of(self.claims[1][1]))
            return ('line', step[1]) + ends + (step[2], self.step)
        return ('polynomial', step[1], step[2], known, step[3], step[4], self.step)


def is_right(talk, claim):
    """Whether an open claim is right, as its function stands in the talk."""
    function, known, value = claim
    book = talk.book
    at_hand = book.plan.steps[talk.step][1]
    if function != at_hand:
        return raw_called(book, function, residues_of(known)) == value
    line = book.reading.functions[function]
    done = book.plan.done[talk.step]
    return meaning_of(book).behind(line, done, dict(known)) == value


def right_claims(talk):
    """For each open claim whether it is right."""
    return tuple([is_right(talk, claim) for claim in talk.claims])
