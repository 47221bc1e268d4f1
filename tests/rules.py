"""Talks by the rules of section 8, in another way than the package goes: claims in a dict of rows."""

from tests.reference import Reference


class RuleTalk:
    """A talk about the book of this text; answers and throws are told by tell."""

    def __init__(self, text, value):
        self.ref = Reference(text)
        self.steps = self.ref.steps()
        self.at = 0
        self.open = {name: [] for name in list(self.ref.functions)[::-1]}
        self.open[self.ref.result].append(({}, value))
        self.throws = []
        self.answer = None
        self.end = None
        self.settle()

    def operator(self):
        """Which operator of its function the round at hand is about."""
        return sum(step[:2] == ('round', self.steps[self.at][1]) for step in self.steps[:self.at])

    def claims(self):
        found = []
        for name, rows in self.open.items():
            parameters, operators = self.ref.functions[name][:2]
            order = list(parameters) + [bound for word, bound in operators if word != 'low']
            for known, value in rows:
                found.append((name, tuple((key, known[key]) for key in order if key in known), value))
        return tuple(found)

    def ask(self):
        if self.end is not None:
            return self.end
        if self.answer is not None:
            return ('throw',)
        step = self.steps[self.at]
        name = step[1]
        parameters = self.ref.functions[name][0]
        known = self.open[name][0][0]
        if step[0] == 'line':
            ends = [tuple(row[0][key] for key in parameters) for row in self.open[name][:2]]
            return ('line', name, ends[0], ends[1], step[2], self.at)
        if step[0] == 'round':
            told = [claim for claim in self.claims() if claim[0] == name][0][1]
            return ('polynomial', name, step[2], told, step[3], step[4], self.at)
        calls = tuple((call[0], tuple(known.get(part, part) for part in call[1])) for call in step[2])
        return ('values', name, calls, self.at)

    def settle(self):
        while self.end is None and self.at < len(self.steps) and self.steps[self.at][::2] == ('parts', ()):
            self.take(())
        if self.end is None and self.at == len(self.steps):
            self.end = ('over', 'let')

    def poly_at(self, poly, residue):
        return sum(part * residue ** power for power, part in enumerate(poly)) % self.ref.prime

    def keeps(self, answer):
        step = self.steps[self.at]
        p = self.ref.prime
        many = len(step[2]) if step[0] == 'parts' else step[-1] + 1
        if answer.__class__ is not tuple or len(answer) != many:
            return False
        if any(part.__class__ is not int or not 0 <= part < p for part in answer):
            return False
        known, value = self.open[step[1]][0]
        if step[0] == 'parts':
            told = dict(zip(step[2], answer))
            return self.ref.body(step[1], known, told).constant() == value
        low, high = self.poly_at(answer, 0), self.poly_at(answer, 1)
        if step[0] == 'line':
            return (low, high) == (value, self.open[step[1]][1][1])
        a = known.get(step[3])
        made = {'sum': lambda: low + high, 'all': lambda: low * high, 'some': lambda: low + high - low * high,
                'low': lambda: low + a * (high - low)}[step[2]]()
        return made % p == value

    def take(self, answer):
        if not self.keeps(answer):
            self.end = ('over', 'refused', self.at)
            return
        step = self.steps[self.at]
        if step[0] != 'parts':
            self.answer = answer
            return
        known, _ = self.open[step[1]].pop(0)
        for (name, arguments), value in zip(step[2], answer):
            point = [known.get(part, part) for part in arguments]
            self.open[name].append((dict(zip(self.ref.functions[name][0], point)), value))
        self.at += 1

    def hear(self, answer):
        self.take(answer)
        self.settle()

    def throw(self, residue):
        step = self.steps[self.at]
        value = self.poly_at(self.answer, residue)
        rows = self.open[step[1]]
        known, _ = rows.pop(0)
        if step[0] == 'line':
            other, _ = rows.pop(0)
            known = {key: ((1 - residue) * known[key] + residue * other[key]) % self.ref.prime for key in known}
        else:
            known = {**known, step[3]: residue}
        rows.insert(0, (known, value))
        self.answer = None
        self.throws.append(residue)
        self.at += 1
        self.settle()

    def right(self):
        """For each open claim whether it is right."""
        found = []
        for name, known, value in self.claims():
            done = 0
            if self.at < len(self.steps) and self.steps[self.at][1] == name:
                done = self.operator()
            true = self.ref.behind(name, done, {key: self.ref.poly(part) for key, part in known})
            found.append(true.constant() == value)
        return tuple(found)
