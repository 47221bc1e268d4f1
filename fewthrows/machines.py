"""Machines that are run elsewhere: the runs that are told are looked at step by step.

Functions whose names begin with raw_ take what is already known to be right.
"""

from fewthrows.checks import are_residues, check_between, check_residue, is_integer
from fewthrows.errors import BadMachine, BadPair, BadPrime, BadRun, BadState, BadValues
from fewthrows.rings import ResidueRing, signed
from fewthrows.stores import MOST_PLACES, are_pairs, first_store, is_pair, raw_cells_told, raw_done, raw_tallies
from fewthrows.texts import number_in, prime_in

REGISTERS = 4
MOST_ROWS = 20
MOST_STEPS = 60
# What the numbers behind a word are: registers, a residue, the number of a row.
FORMS = {
    'set': ('R', 'VALUE'),
    'add': ('R', 'R', 'R'),
    'minus': ('R', 'R', 'R'),
    'times': ('R', 'R', 'R'),
    'take': ('R', 'R'),
    'keep': ('R', 'R'),
    'zero': ('R', 'ROW'),
    'goto': ('ROW',),
    'halt': (),
}
SIGNS = {'add': '+', 'minus': '-', 'times': '*'}
JUMPS = ('zero', 'goto')
STORE_WORDS = ('take', 'keep')
START = (0, (0, 0, 0, 0))
# The lines of the prime and of the places stand ahead of it.
FIRST_ROW_LINE = 3


def places_in(words):
    """How many places the words of a line places N tell; None if they tell none."""
    number = number_in(words[1]) if len(words) == 2 and words[0] == 'places' else None
    if number is None or not 1 <= number <= MOST_PLACES:
        return None
    return number


def is_of_kind(prime, kind, number):
    """Whether a word wrote such a number; rows are looked up when all of them are known."""
    if number is None:
        return False
    if kind == 'R':
        return number < REGISTERS
    return kind == 'ROW' or number < prime


def row_in(prime, words):
    """The row, (word, number, ..), that the words of a line tell; None if they tell none."""
    kinds = FORMS.get(words[0])
    numbers = [number_in(word) for word in words[1:]]
    if kinds is None or len(kinds) != len(numbers):
        return None
    if not all([is_of_kind(prime, kind, number) for kind, number in zip(kinds, numbers)]):
        return None
    return (words[0],) + tuple(numbers)


def rows_in(prime, lines):
    """The rows that the lines, the third one first, tell."""
    rows = []
    for number, words in enumerate(lines, start=FIRST_ROW_LINE):
        row = row_in(prime, words)
        if row is None or len(rows) == MOST_ROWS:
            raise BadMachine(number)
        rows.append(row)
    if len(rows) == 0:
        raise BadMachine(FIRST_ROW_LINE)
    for number, row in enumerate(rows, start=FIRST_ROW_LINE):
        if row[0] in JUMPS and row[-1] >= len(rows):
            raise BadMachine(number)
    return tuple(rows)


class Machine:
    """A machine."""

    def __init__(self, text):
        if not isinstance(text, str):
            raise BadMachine(0)
        lines = [line.split(' ') for line in text.split('\n')]
        prime = prime_in(lines[0])
        if prime is None:
            raise BadMachine(1)
        places = places_in(lines[1]) if len(lines) > 1 else None
        if places is None:
            raise BadMachine(2)
        self.text = text
        self.prime = prime
        self.places = places
        self.rows = rows_in(prime, lines[2:])

    def __eq__(self, other):
        return isinstance(other, Machine) and self.text == other.text

    def __len__(self):
        return len(self.rows)


def row_at(machine, state):
    """The row of the state; behind the last row it is as at halt."""
    if state[0] == len(machine.rows):
        return ('halt',)
    return machine.rows[state[0]]


def is_store_row(machine, state):
    """Whether the row of the state is take or keep."""
    return row_at(machine, state)[0] in STORE_WORDS


def goes_on(machine, state):
    """Whether a step follows the state."""
    row = row_at(machine, state)
    if row[0] in STORE_WORDS:
        return state[1][row[2]] < machine.places
    return row[0] != 'halt'


def deed_at(machine, state):
    """The deed of the step that follows a state whose row is take or keep."""
    word, number, place = row_at(machine, state)
    if word == 'take':
        return ('read', state[1][place])
    return ('put', state[1][place], state[1][number])


def value_behind(machine, row, registers, taken):
    """What the row's register is behind a row that changes it."""
    if row[0] == 'set':
        return row[2]
    if row[0] == 'take':
        return taken
    return signed(ResidueRing(machine.prime), SIGNS[row[0]], registers[row[2]], registers[row[3]])


def registers_behind(machine, row, registers, taken):
    """The registers behind the row."""
    if row[0] not in SIGNS and row[0] not in ('set', 'take'):
        return registers
    value = value_behind(machine, row, registers, taken)
    return registers[:row[1]] + (value,) + registers[row[1] + 1:]


def row_behind(row, state):
    """The number of the row with which the machine goes on behind the state's row."""
    if row[0] == 'goto' or (row[0] == 'zero' and state[1][row[1]] == 0):
        return row[-1]
    return state[0] + 1


def state_behind(machine, state, taken):
    """The state to which the step leads that follows this one; taken is what a take takes."""
    row = row_at(machine, state)
    return (row_behind(row, state), registers_behind(machine, row, state[1], taken))


def is_state(machine, value):
    """Whether value is a state of the machine."""
    if not isinstance(value, tuple) or len(value) != 2:
        return False
    if not is_integer(value[0]) or not 0 <= value[0] <= len(machine.rows):
        return False
    return are_residues(machine.prime, value[1], REGISTERS, REGISTERS)


def is_told(machine, state, value):
    """Whether value can be told of the step behind the state."""
    return is_pair(value) if is_store_row(machine, state) else value is None


def is_run(machine, value):
    """Whether value is a told run of states of the machine."""
    if not isinstance(value, tuple) or len(value) != 3:
        return False
    states, told, last = value
    if not isinstance(states, tuple) or not 1 <= len(states) <= MOST_STEPS + 1:
        return False
    if not all([is_state(machine, state) for state in states]):
        return False
    if not isinstance(told, tuple) or len(told) != len(states) - 1:
        return False
    if not all([is_told(machine, state, pair) for state, pair in zip(states, told)]):
        return False
    return are_pairs(last, machine.places)


def check_first_values(machine, value):
    """Raise BadValues unless value is a tuple of a residue for each place."""
    if not are_residues(machine.prime, value, machine.places, machine.places):
        raise BadValues(value)


def check_run(machine, value):
    """Raise BadRun unless value is a told run of states of the machine."""
    if not is_run(machine, value):
        raise BadRun(value)


def raw_step_fits(machine, state, pair, later):
    """Whether a step leads from state to later, if pair is told."""
    if not goes_on(machine, state) or is_store_row(machine, state) != (pair is not None):
        return False
    # A later state has residues alone: what is taken cannot fit unless it is one.
    taken = 0 if pair is None else pair[0]
    return state_behind(machine, state, taken) == later


def first_misfit(machine, run):
    """Where the states of the run are wrong; None if they are not."""
    states, told, _ = run
    if states[0] != START:
        return ('start',)
    for number, pair in enumerate(told, start=1):
        if not raw_step_fits(machine, states[number - 1], pair, states[number]):
            return ('step', number)
    return None


def job_of(machine, run):
    """The job of a run whose steps fit, and the answers that are told of it."""
    states, told, last = run
    job = tuple([deed_at(machine, state) for state in states[:-1] if is_store_row(machine, state)])
    return job, (tuple([pair for pair in told if pair is not None]), last)


def plain_run(machine, values, many):
    """Whether the run ends behind at most so many steps, and the told run of these."""
    check_first_values(machine, values)
    check_between(many, 0, MOST_STEPS)
    store = first_store(values)
    states = [START]
    told = []
    deeds = 0
    while goes_on(machine, states[-1]) and len(told) < many:
        state = states[-1]
        pair = None
        taken = 0
        if is_store_row(machine, state):
            deeds += 1
            pair = raw_done(store, deeds, deed_at(machine, state))
            taken = pair[0]
        told.append(pair)
        states.append(state_behind(machine, state, taken))
    word = 'goes on' if goes_on(machine, states[-1]) else 'ended'
    return (word, (tuple(states), tuple(told), tuple(store)))


def step_fits(machine, state, pair, later):
    """Whether a step leads from state to later, if pair is told."""
    for value in (state, later):
        if not is_state(machine, value):
            raise BadState(value)
    if pair is not None and not is_pair(pair):
        raise BadPair(pair)
    return raw_step_fits(machine, state, pair, later)


def looked_at(machine, values, run):
    """Where the told run is wrong, step by step and then by its piles; or that it is let."""
    check_first_values(machine, values)
    check_run(machine, run)
    misfit = first_misfit(machine, run)
    if misfit is not None:
        return misfit
    job, answers = job_of(machine, run)
    return raw_tallies(values, job, answers)


def run_cells(machine, values, run, y, z):
    """What looked_at tells, with two cells and the throws y and z in the place of the piles."""
    check_first_values(machine, values)
    check_run(machine, run)
    prime = machine.prime
    pairs = [pair for pair in run[1] if pair is not None]
    if prime <= max(machine.places - 1, len(pairs)):
        raise BadPrime(prime)
    check_residue(prime, y)
    check_residue(prime, z)
    misfit = first_misfit(machine, run)
    if misfit is not None:
        return misfit
    job, answers = job_of(machine, run)
    return raw_cells_told(prime, values, job, answers, y, z)
