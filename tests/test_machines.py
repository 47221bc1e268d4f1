"""Machines that are run elsewhere (points 15 and 3)."""

import collections
import copy
import itertools
import re
import unittest

from fewthrows.errors import BadMachine, BadNumber, BadPair, BadPrime, BadResidue, BadRun, BadState, BadValues
from fewthrows.machines import Machine, looked_at, plain_run, run_cells, step_fits
from fewthrows.stores import cells_told, store_bound, tallies
from tests.support import DEEP, NO_NUMBERS, TriedCases, Wrong, numbers, residues, said_by

TEXT = 'prime 101\nplaces 2\nset 0 1\ntake 1 0\nadd 1 1 1\nkeep 1 0\nhalt'
MACHINE = Machine(TEXT)
RUN = plain_run(MACHINE, (4, 9), 60)[1]
STATES, TOLD, LAST = RUN
START = (0, (0, 0, 0, 0))
NO_VALUES = NO_NUMBERS + [0, 1, (4,), (4, 9, 0), (4, 101), (4, -1), (4, True), [4, 9], (4, None), ((4, 9),), (4, 9.0)]
NO_COUNTS = NO_NUMBERS + [61, 62, 1000]
NO_STATES = NO_NUMBERS + [
    0, 1, (0,), (0, (0, 0, 0, 0), 0), [0, (0, 0, 0, 0)], (0, [0, 0, 0, 0]), (6, (0, 0, 0, 0)), (-1, (0, 0, 0, 0)), (True, (0, 0, 0, 0)),
    (0, (0, 0, 0)), (0, (0, 0, 0, 0, 0)), (0, (0, 0, 0, 101)), (0, (0, 0, 0, -1)), (0, (0, 0, 0, False)), (0, (0, 0, 0, None)), (0, 0, 0, 0, 0),
    (None, (0, 0, 0, 0)), ((0,), (0, 0, 0, 0)), (0, ((0, 0, 0, 0),)), (0, ()), (10 ** 299, (0, 0, 0, 0)), ('0', (0, 0, 0, 0)),
]
# None is a pair of a step that is no deed; the moment of another one can be as great as may be.
NO_PAIRS = [value for value in NO_NUMBERS if value not in (None, (3, 10 ** 299))] + [
    0, 1, (8,), (8, 0, 0), [8, 0], (8, -1), (-1, 0), (8, True), (False, 0), (8, None), (8, '0'), ((8, 0),), (8, 0.0), {8: 0},
]
NO_RUNS = NO_NUMBERS + [
    0, 1, (STATES, TOLD), (STATES, TOLD, LAST, ()), [STATES, TOLD, LAST], (list(STATES), TOLD, LAST), (STATES, list(TOLD), LAST), (STATES, TOLD, list(LAST)),
    (STATES[:-1], TOLD, LAST), (STATES, TOLD[:-1], LAST), (STATES, TOLD, LAST[:-1]), (STATES, TOLD, LAST + ((0, 0),)), (STATES, TOLD + (None,), LAST),
    ((), (), LAST), (STATES, (None, None, None, (9, 1)), LAST), (STATES, ((0, 0), (9, 0), None, (9, 1)), LAST), (STATES, TOLD, ((4, 0), (18, -1))),
    (STATES, TOLD, ((4, 0), (18, True))), (STATES, TOLD, ((4, 0), None)), (STATES, (None, (9,), None, (9, 1)), LAST), (STATES, (None, (9, 0), None, None), LAST),
    (STATES, (None, [9, 0], None, (9, 1)), LAST), (STATES, (0, (9, 0), None, (9, 1)), LAST), (STATES, (False, (9, 0), None, (9, 1)), LAST),
    (STATES[:-1] + ((6, STATES[-1][1]),), TOLD, LAST), (STATES[:-1] + ((4, (1, 18, 0, 101)),), TOLD, LAST), (STATES[:-1] + (None,), TOLD, LAST),
    (STATES[:-1] + ([4, (1, 18, 0, 0)],), TOLD, LAST), ((START,) * 62, (None,) * 61, LAST), ((None,), (), LAST), ((START,), (None,), LAST), ((START,), (), ()),
    (STATES[:-1] + ((True, (1, 18, 0, 0)),), TOLD, LAST), (STATES, (None, (-9, 0), None, (9, 1)), LAST), (STATES, ('', (9, 0), None, (9, 1)), LAST),
]
NO_RESIDUES = NO_NUMBERS + [101, 102, MACHINE]
VALUES, BAD_RUN, BAD_RESIDUE = (BadValues, NO_VALUES), (BadRun, NO_RUNS), (BadResidue, NO_RESIDUES)
CASES = [
    Wrong(plain_run, {'machine': MACHINE, 'values': (4, 9), 'many': 3}, {'values': VALUES, 'many': (BadNumber, NO_COUNTS)}),
    Wrong(step_fits, {'machine': MACHINE, 'state': STATES[1], 'pair': (9, 0), 'later': STATES[2]},
          {'state': (BadState, NO_STATES), 'pair': (BadPair, NO_PAIRS), 'later': (BadState, NO_STATES)}, 'state later pair'),
    Wrong(looked_at, {'machine': MACHINE, 'values': (4, 9), 'run': RUN}, {'values': VALUES, 'run': BAD_RUN}),
    Wrong(run_cells, {'machine': MACHINE, 'values': (4, 9), 'run': RUN, 'y': 2, 'z': 3},
          {'values': VALUES, 'run': BAD_RUN, 'y': BAD_RESIDUE, 'z': BAD_RESIDUE}),
]
WORDS = ('set', 'add', 'minus', 'times', 'take', 'keep', 'zero', 'goto', 'halt')


def some_machine(source, prime=None, rows=None, words=WORDS):
    prime = prime or source.choice((5, 7, 101, 1000003))
    places = source.randint(1, min(4, prime))
    rows = rows or source.randint(1, 12)
    lines = [f'prime {prime}', f'places {places}']
    for _ in range(rows):
        word = source.choice(words)
        r, s, t = (source.randrange(4) for _ in range(3))
        lines.append({
            'set': f'set {r} {source.randrange(min(prime, source.choice((places, places, prime))))}', 'add': f'add {r} {s} {t}', 'minus': f'minus {r} {s} {t}',
            'times': f'times {r} {s} {t}', 'take': f'take {r} {s}', 'keep': f'keep {r} {s}', 'zero': f'zero {r} {source.randrange(rows)}',
            'goto': f'goto {source.randrange(rows)}', 'halt': 'halt',
        }[word])
    return '\n'.join(lines)


def run_by_rule(text, values, many):
    """The run, straight from the text: (word, run)."""
    lines = [line.split(' ') for line in text.split('\n')]
    p, places, rows = int(lines[0][1]), int(lines[1][1]), lines[2:]
    at, g = 0, [0, 0, 0, 0]
    store = {place: (value, 0) for place, value in enumerate(values)}
    states, told, deeds = [(0, (0, 0, 0, 0))], [], 0
    while True:
        row = rows[at] if at < len(rows) else ['halt']
        n = [int(part) for part in row[1:]]
        if row[0] == 'halt' or row[0] in ('take', 'keep') and g[n[1]] >= places:
            return 'ended', (tuple(states), tuple(told), tuple(store[place] for place in range(places)))
        if len(told) == many:
            return 'goes on', (tuple(states), tuple(told), tuple(store[place] for place in range(places)))
        pair = None
        at += 1
        if row[0] == 'set':
            g[n[0]] = n[1]
        elif row[0] == 'add':
            g[n[0]] = (g[n[1]] + g[n[2]]) % p
        elif row[0] == 'minus':
            g[n[0]] = (g[n[1]] - g[n[2]]) % p
        elif row[0] == 'times':
            g[n[0]] = g[n[1]] * g[n[2]] % p
        elif row[0] == 'goto':
            at = n[0]
        elif row[0] == 'zero':
            at = n[1] if g[n[0]] == 0 else at
        else:
            deeds += 1
            place = g[n[1]]
            pair = store[place]
            store[place] = (pair[0] if row[0] == 'take' else g[n[0]], deeds)
            if row[0] == 'take':
                g[n[0]] = pair[0]
        told.append(pair)
        states.append((at, tuple(g)))


def bad_line(text):
    """The number that BadMachine tells, by patterns for whole lines; None for a machine."""
    lines = text.split('\n')
    n = '(0|[1-9][0-9]{0,8})'
    match = re.fullmatch(f'prime {n}', lines[0])
    p = int(match[1]) if match else 0
    if not 3 <= p <= 1000003 or any(p % part == 0 for part in range(2, min(p, 1010))):
        return 1
    if len(lines) < 2 or not re.fullmatch('places ([1-9]|1[0-6])', lines[1]):
        return 2
    for at, line in enumerate(lines[2:], 3):
        match = re.fullmatch(f'set [0-3] {n}', line)
        good = bool(match) and int(match[1]) < p
        good = good or re.fullmatch(f'(add|minus|times) [0-3] [0-3] [0-3]|(take|keep) [0-3] [0-3]|zero [0-3] {n}|goto {n}|halt', line)
        if not good or at > 22:
            return at
    if len(lines) < 3:
        return 3
    for at, line in enumerate(lines[2:], 3):
        match = re.fullmatch(f'(zero [0-3]|goto) {n}', line)
        if match and int(match[2]) >= len(lines) - 2:
            return at
    return None


def number_of_bad(text):
    try:
        Machine(text)
    except BadMachine as error:
        return error.value
    return None


def look(machine, values, run, y, z):
    """What looked_at and run_cells tell, by step_fits and the store of the run."""
    states, told, last = run
    if states[0] != START:
        return ('start',), ('start',)
    for number, pair in enumerate(told, 1):
        if not step_fits(machine, states[number - 1], pair, states[number]):
            return ('step', number), ('step', number)
    job = []
    for (at, g), pair in zip(states, told):
        if pair is not None:
            word, r, s = machine.rows[at]
            job.append(('read', g[s]) if word == 'take' else ('put', g[s], g[r]))
    answers = (tuple(pair for pair in told if pair is not None), last)
    return tallies(values, tuple(job), answers), cells_told(machine.prime, values, tuple(job), answers, y, z)


def bent(source, machine, run, prime):
    """The run with one thing otherwise, still a told run of the machine's states most times."""
    states, told, last = (list(part) for part in run)
    way = source.randrange(6)
    at = source.randrange(len(states))
    if way == 0:
        row, g = states[at]
        entry = source.randrange(4)
        states[at] = (row, g[:entry] + (source.randrange(prime),) + g[entry + 1:])
    elif way == 1:
        states[at] = (source.randrange(len(machine) + 1), states[at][1])
    elif way in (2, 3) and told:
        deeds = [number for number, pair in enumerate(told) if pair is not None]
        if deeds:
            at = source.choice(deeds)
            value, moment = told[at]
            told[at] = (source.randrange(prime), moment) if way == 2 else (value, source.randrange(len(deeds) + 1))
            if machine.rows[states[at][0]][0] == 'take' and source.random() < 0.7:
                # The lie is led on: the rest of the run keeps to it.
                return led_on(source, machine, run, at, told[at])
    elif way == 4:
        at = source.randrange(len(last))
        last[at] = (source.randrange(prime), last[at][1])
    else:
        at = source.randrange(len(last))
        last[at] = (last[at][0], source.randrange(7))
    return tuple(states), tuple(told), tuple(last)


def led_on(source, machine, run, at, pair):
    """A run that goes as run does, but is told this pair at a take, and a keeper who stays with that."""
    states, told = list(run[0][:at + 1]), list(run[1][:at])
    row, g = states[at]
    word, r, s = machine.rows[row]
    states.append((row + 1, g[:r] + (pair[0],) + g[r + 1:]))
    return tuple(states), tuple(told + [pair]), run[2]


class Arguments(TriedCases, unittest.TestCase):
    cases = CASES

    def test_text_by_name(self):
        self.assertEqual(Machine(text=TEXT), MACHINE)

    def test_text_is_a_string(self):
        for value in [wrong for wrong in NO_NUMBERS if not isinstance(wrong, str)] + [0, 1, [TEXT], (TEXT,), MACHINE, DEEP]:
            with self.assertRaises(BadMachine) as caught:
                Machine(value)
            self.assertEqual((caught.exception.value.__class__, caught.exception.value), (int, 0))

    def test_sixty_steps(self):
        machine = Machine('prime 101\nplaces 1\ngoto 0')
        word, run = plain_run(machine, (3,), 60)
        self.assertEqual((word, len(run[0]), looked_at(machine, (3,), run)), ('goes on', 61, ('let',)))
        longer = (run[0] + (START,), run[1] + (None,), run[2])
        self.assertIs(said_by(self, looked_at, {'machine': machine, 'values': (3,), 'run': longer}).value, longer)

    def test_primes_of_cells(self):
        def bad(text, values, many):
            machine = Machine(text)
            run = plain_run(machine, values, many)[1]
            self.assertEqual(looked_at(machine, values, run), ('let',))
            raised = said_by(self, run_cells, {'machine': machine, 'values': values, 'run': run, 'y': -1, 'z': -1})
            return raised.__class__, raised.value

        # The prime has to be above the greatest place, that is places - 1, and above the number of pairs.
        self.assertEqual(bad('prime 3\nplaces 4\nhalt', (0,) * 4, 60), (BadPrime, 3))
        self.assertEqual(bad('prime 3\nplaces 3\nhalt', (0,) * 3, 60), (BadResidue, -1))
        self.assertEqual(bad('prime 13\nplaces 14\nhalt', (0,) * 14, 60), (BadPrime, 13))
        self.assertEqual(bad('prime 17\nplaces 16\nhalt', (0,) * 16, 60), (BadResidue, -1))
        self.assertEqual(bad('prime 5\nplaces 1\ntake 0 1\ngoto 0', (4,), 10), (BadPrime, 5))
        self.assertEqual(bad('prime 5\nplaces 1\ntake 0 1\ngoto 0', (4,), 9), (BadPrime, 5))
        self.assertEqual(bad('prime 5\nplaces 1\ntake 0 1\ngoto 0', (4,), 8), (BadResidue, -1))
        machine = Machine('prime 5\nplaces 1\ntake 0 1\ngoto 0')
        # Also where the states are wrong already.
        wrong = (((1, (0, 0, 0, 0)),), (), ((9, 9),))
        raised = said_by(self, run_cells, {'machine': machine, 'values': (1,), 'run': wrong, 'y': 5, 'z': 0})
        self.assertEqual((raised.__class__, raised.value), (BadResidue, 5))
        self.assertEqual(run_cells(machine, (1,), wrong, 4, 0), ('start',))


class Texts(unittest.TestCase):
    def bad(self, number, *texts):
        for text in texts:
            with self.subTest(text=text):
                self.assertEqual(number_of_bad(text), number)
                self.assertEqual(bad_line(text), number)

    def test_lines(self):
        good = TEXT.split('\n')
        self.bad(2, 'prime 7')
        self.bad(3, 'prime 7\nplaces 2')
        self.bad(None, *['\n'.join(good[:many]) for many in range(3, 8)])
        self.bad(1, '', 'prime', 'prime 9', 'prime 2', 'prime 07', 'prime 7 ', ' prime 7', 'prime  7', 'prime 1000033', 'prime -7', 'prime 7 7', 'halt',
                 'places 2\nprime 7\nhalt', '\nprime 7\nplaces 2\nhalt', 'prime 9\nx\ny')
        for line in ('', 'places', 'places 0', 'places 17', 'places 01', 'places 2 2', 'places -1', 'places x', 'place 2', 'places 2 ', ' places 2', 'places  2',
                     'halt', 'prime 7', 'places 100', 'places 1000000001'):
            self.bad(2, 'prime 7\n' + line, 'prime 7\n' + line + '\nhalt')
        self.bad(None, 'prime 7\nplaces 1\nhalt', 'prime 7\nplaces 16\nhalt')
        for line in ('', ' ', 'set', 'set 0', 'set 0 7', 'set 4 1', 'set 0 01', 'set 0 -1', 'set 0 1 1', 'set 0  1', 'set 0 1 ', ' set 0 1', 'Set 0 1', 'add 0 1',
                     'add 0 1 4', 'add 4 1 1', 'add 1 4 1', 'add 0 1 2 3', 'minus 0 1', 'minus 1 1 4', 'times 0', 'times 1 1 x', 'take 0', 'take 4 0', 'take 0 4',
                     'take 0 1 2', 'keep', 'keep 4 0', 'keep 0 4', 'keep 0 00', 'zero 0', 'zero 4 0', 'zero 0 00', 'zero 0 0 0', 'goto', 'goto 00', 'goto x',
                     'goto -1', 'goto 0 0', 'halt 0', 'halt ', 'halts', 'sub 0 0 0', 'goto 1000000000', 'zero 0 1000000000', 'goto 0000000000', 'prime 7', 'places 2'):
            self.bad(3, 'prime 7\nplaces 2\n' + line, 'prime 7\nplaces 2\n' + line + '\nhalt')
            # Rows that are not there are looked up behind all lines.
            self.bad(5, 'prime 7\nplaces 2\ngoto 3\nhalt\n' + line)
            self.bad(4, 'prime 7\nplaces 2\ngoto 20\n' + line + '\ngoto 3')

    def test_rows_that_are_not_there(self):
        for many in (1, 2, 19, 20):
            rows = ['halt'] * many
            for at in (0, many - 1):
                for word in ('goto ', 'zero 3 '):
                    for number in (0, many - 1, many, 20, 21, 999999999):
                        text = '\n'.join(['prime 7', 'places 2'] + rows[:at] + [f'{word}{number}'] + rows[at + 1:])
                        self.bad(None if number < many else at + 3, text)
        self.bad(4, 'prime 7\nplaces 2\nhalt\ngoto 7\ngoto 8')

    def test_how_many_rows(self):
        twenty = 'prime 7\nplaces 2' + '\nhalt' * 20
        self.bad(None, twenty)
        self.bad(23, twenty + '\nhalt', twenty + '\n', twenty + '\nx\ny', twenty + '\nhalt\nhalt', twenty + '\ngoto 99')
        self.bad(23, 'prime 7\nplaces 2\ngoto 99' + '\nhalt' * 20)

    def test_changed_by_a_sign(self):
        bad = 0
        for seed in range(60):
            source = numbers(seed)
            text = some_machine(source, 101)
            self.bad(None, text)
            for _ in range(30):
                at = source.randrange(len(text) + 1)
                sign = source.choice(['', ' ', '\n', '0', '1', '3', '4', '7', '9', '-', 't', '\nhalt', ' 0', '\ngoto 3', '\n' * 2])
                changed = text[:at] + sign + text[at + source.randint(0, 1):]
                self.assertEqual(number_of_bad(changed), bad_line(changed), changed)
                bad += bad_line(changed) is not None
        self.assertGreater(bad, 1000)

    def test_attributes(self):
        text = 'prime 7\nplaces 16\nset 3 6\nadd 0 1 2\nminus 1 2 3\ntimes 2 3 0\ntake 0 1\nkeep 1 2\nzero 2 8\ngoto 0\nhalt'
        machine = Machine(text)
        self.assertEqual((machine.text, machine.prime, machine.places, len(machine)), (text, 7, 16, 9))
        self.assertEqual(machine.rows, (
            ('set', 3, 6), ('add', 0, 1, 2), ('minus', 1, 2, 3), ('times', 2, 3, 0), ('take', 0, 1), ('keep', 1, 2), ('zero', 2, 8), ('goto', 0), ('halt',)))
        for name in ('text', 'prime', 'places', 'rows'):
            self.assertIn(name, vars(machine))

    def test_equal(self):
        self.assertTrue(MACHINE == Machine(TEXT))
        self.assertFalse(MACHINE != Machine(TEXT))
        self.assertEqual(MACHINE, copy.deepcopy(MACHINE))
        for value in (Machine(TEXT + '\nhalt'), Machine(TEXT.replace('101', '103')), TEXT, None, 0, 5, (TEXT,), object()):
            self.assertFalse(MACHINE == value)
            self.assertTrue(MACHINE != value)


class Runs(unittest.TestCase):
    def machines(self, seeds, **more):
        for seed in seeds:
            source = numbers(seed)
            text = some_machine(source, **more)
            machine = Machine(text)
            yield source, text, machine, residues(source, machine.prime, machine.places)

    def test_by_rule(self):
        seen = collections.Counter()
        for source, text, machine, values in self.machines(range(400)):
            for many in (0, 1, source.randint(2, 59), 60):
                found = plain_run(machine, values, many)
                self.assertEqual(found, run_by_rule(text, values, many))
                seen[found[0]] += 1
            for at, _ in found[1][0]:
                seen[machine.rows[at][0] if at < len(machine) else 'behind'] += 1
        self.assertLessEqual(set(WORDS) | {'ended', 'goes on', 'behind'}, set(seen))
        self.assertGreater(min(seen.values()), 20)

    def test_each_row(self):
        begin = 'prime 7\nplaces 3\nset 0 2\nset 1 5\n'
        for row, registers in [('set 2 6', (2, 5, 6, 0)), ('add 3 0 1', (2, 5, 0, 0)), ('add 2 1 1', (2, 5, 3, 0)), ('minus 2 0 1', (2, 5, 4, 0)),
                               ('minus 1 1 1', (2, 0, 0, 0)), ('times 0 0 1', (3, 5, 0, 0)), ('take 1 0', (2, 4, 0, 0)), ('keep 1 0', (2, 5, 0, 0))]:
            word, run = plain_run(Machine(begin + row), (1, 3, 4), 60)
            self.assertEqual((word, run[0][-1]), ('ended', (3, registers)))
            pair = (4, 0) if row[:4] in ('take', 'keep') else None
            self.assertEqual(run[1], (None, None, pair))
            last = {'take': (4, 1), 'keep': (5, 1)}.get(row[:4], (4, 0))
            self.assertEqual(run[2], ((1, 0), (3, 0), last))

    def test_where_runs_end(self):
        for text, steps in [('halt', 0), ('set 0 1', 1), ('set 0 2\ntake 0 0', 1), ('set 0 2\nkeep 0 0', 1), ('set 0 2\nkeep 0 1\ntake 1 0', 2),
                            ('zero 0 2\nhalt\nset 0 1', 2), ('set 0 1\nzero 0 0\nhalt', 2), ('goto 1\nhalt', 1), ('set 0 3\nkeep 1 0\nset 0 0', 1)]:
            machine = Machine('prime 5\nplaces 2\n' + text)
            word, run = plain_run(machine, (1, 1), 60)
            self.assertEqual((word, len(run[1])), ('ended', steps))
            # A run of just so many steps has ended, one of fewer goes on.
            self.assertEqual(plain_run(machine, (1, 1), steps), ('ended', run))
            for many in range(steps):
                self.assertEqual(plain_run(machine, (1, 1), many)[0], 'goes on')

    def test_steps_fit(self):
        for source, text, machine, values in self.machines(range(150)):
            states, told, last = plain_run(machine, values, 20)[1]
            for at, pair in enumerate(told):
                self.assertIs(step_fits(machine, states[at], pair, states[at + 1]), True)
                self.assertIs(step_fits(machine, states[at], (3, 0) if pair is None else None, states[at + 1]), False)
                row, g = states[at + 1]
                entry = source.randrange(4)
                other = g[:entry] + ((g[entry] + 1) % machine.prime,) + g[entry + 1:]
                self.assertIs(step_fits(machine, states[at], pair, (row, other)), False)
                self.assertIs(step_fits(machine, states[at], pair, ((row + 1) % (len(machine) + 1), g)), False)

    def test_no_step_fits(self):
        machine = Machine('prime 5\nplaces 2\nhalt\ntake 0 1\nkeep 0 1\ngoto 3')
        registers = (1, 2, 0, 0)
        for row in (0, 1, 2, 4):
            for pair in (None, (1, 0), (0, 0)):
                for later in itertools.product(range(5), [registers, (0, 2, 0, 0)]):
                    self.assertIs(step_fits(machine, (row, registers), pair, later), False)
        self.assertIs(step_fits(machine, (3, registers), None, (3, registers)), True)

    def test_what_is_taken_and_kept(self):
        machine = Machine('prime 5\nplaces 2\ntake 0 1\nkeep 0 1')
        for value in range(8):
            for moment in (0, 7, 10 ** 299):
                taken = (1, (value % 5, 0, 0, 0))
                # What is taken has to be a residue; what lay where something is kept need not be.
                self.assertIs(step_fits(machine, START, (value, moment), taken), value < 5)
                self.assertIs(step_fits(machine, (1, (3, 0, 0, 0)), (value, moment), (2, (3, 0, 0, 0))), True)


class Looks(unittest.TestCase):
    def runs(self, seeds, **more):
        for seed in seeds:
            source = numbers(seed)
            machine = Machine(some_machine(source, **more))
            values = residues(source, machine.prime, machine.places)
            run = plain_run(machine, values, source.choice((0, 1, 3, 6, 60)))[1]
            yield source, machine, values, run, True
            for _ in range(6):
                told = bent(source, machine, run, machine.prime)
                yield source, machine, values, told, told == run

    def test_looks(self):
        seen = collections.Counter()
        for source, machine, values, run, right in self.runs(range(400), words=WORDS + ('take', 'keep', 'set', 'add') * 2):
            y, z = source.randrange(machine.prime), source.randrange(machine.prime)
            try:
                found = looked_at(machine, values, run)
            except BadRun:
                seen['bad'] += 1
                self.assertFalse(right)
                continue
            if sum(pair is not None for pair in run[1]) >= machine.prime or machine.places > machine.prime:
                self.assertIs(said_by(self, run_cells, {'machine': machine, 'values': values, 'run': run, 'y': y, 'z': z}).__class__, BadPrime)
                continue
            cells = run_cells(machine, values, run, y, z)
            self.assertEqual((found, cells), look(machine, values, run, y, z))
            same = run == plain_run(machine, values, len(run[1]))[1]
            self.assertEqual(found == ('let',), same)
            if same:
                self.assertEqual(cells, ('let',))
            seen[found[0]] += 1
            seen['cells ' + cells[0]] += 1
        self.assertEqual(
            sorted(seen), ['bad', 'cells late', 'cells late last', 'cells let', 'cells start', 'cells step', 'cells unequal', 'late', 'let', 'start',
                           'step', 'unlike'])
        self.assertGreater(min(seen.values()), 5)

    def test_all_throws(self):
        wrong = 0
        for source, machine, values, run, right in self.runs(range(120), prime=7, words=('set', 'take', 'keep', 'add', 'keep', 'take')):
            many = sum(pair is not None for pair in run[1])
            try:
                found = looked_at(machine, values, run)
            except BadRun:
                continue
            if many >= 7 or found[0] in ('start', 'step'):
                continue
            let = sum(run_cells(machine, values, run, y, z) == ('let',) for y in range(7) for z in range(7))
            if found == ('let',):
                self.assertEqual(let, 49)
            else:
                self.assertLessEqual(let, store_bound(7, machine.places + many))
                wrong += store_bound(7, machine.places + many) < 49
        self.assertGreater(wrong, 20)

    def test_one_pair_one_state(self):
        for at in range(len(STATES)):
            for state in ((STATES[at][0], (1, 9, 9, 0)), ((STATES[at][0] + 1) % 5, STATES[at][1])):
                told = (STATES[:at] + (state,) + STATES[at + 1:], TOLD, LAST)
                try:
                    found = looked_at(MACHINE, (4, 9), told)
                except BadRun:
                    continue
                self.assertEqual(found, ('start',) if at == 0 else ('step', at))
        self.assertEqual(looked_at(MACHINE, (4, 9), (STATES, (None, (9, 1), None, (9, 1)), LAST)), ('late', 1))
        self.assertEqual(looked_at(MACHINE, (4, 9), (STATES, (None, (9, 0), None, (9, 2)), LAST)), ('late', 2))
        self.assertEqual(looked_at(MACHINE, (4, 9), (STATES, (None, (9, 0), None, (9, 0)), LAST)), ('unlike', (1, 9, 0)))
        self.assertEqual(looked_at(MACHINE, (4, 9), (STATES, (None, (9, 0), None, (200, 1)), LAST)), ('unlike', (1, 9, 1)))
        self.assertEqual(run_cells(MACHINE, (4, 9), (STATES, (None, (9, 0), None, (200, 1)), LAST), 1, 2), ('late', 2))
        self.assertEqual(looked_at(MACHINE, (4, 9), (STATES, TOLD, ((4, 0), (18, 1)))), ('unlike', (1, 18, 1)))
        self.assertEqual(looked_at(MACHINE, (4, 9), (STATES, TOLD, ((4, 1), (18, 2)))), ('unlike', (0, 4, 0)))
        self.assertEqual(run_cells(MACHINE, (4, 9), (STATES, TOLD, ((4, 3), (18, 2))), 5, 6), ('late last', 0))
        self.assertEqual(looked_at(MACHINE, (5, 9), RUN), ('unlike', (0, 4, 0)))

    def test_shorter_runs_are_let(self):
        for many in range(5):
            word, run = plain_run(MACHINE, (4, 9), many)
            self.assertEqual(word, 'ended' if many == 4 else 'goes on')
            self.assertEqual(looked_at(MACHINE, (4, 9), run), ('let',))
        behind = (STATES + ((5, STATES[-1][1]),), TOLD + (None,), LAST)
        self.assertEqual(looked_at(MACHINE, (4, 9), behind), ('step', 5))


if __name__ == '__main__':
    unittest.main()
