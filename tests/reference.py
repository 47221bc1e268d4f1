"""Books reckoned another way: bodies by Python's own parser, polynomials as lists, talks by the rules.

It takes texts that are books; names in them are no words of Python, and no name of a
table is a parameter's.
"""

import ast
import itertools


class Poly:
    """A polynomial in one name, its coefficients without noughts behind."""

    def __init__(self, prime, parts):
        self.prime = prime
        self.parts = [part % prime for part in parts]
        while self.parts and self.parts[-1] == 0:
            self.parts.pop()

    def other(self, value):
        return value if isinstance(value, Poly) else Poly(self.prime, [value])

    def __add__(self, value):
        pairs = itertools.zip_longest(self.parts, self.other(value).parts, fillvalue=0)
        return Poly(self.prime, [left + right for left, right in pairs])

    def __neg__(self):
        return Poly(self.prime, [-part for part in self.parts])

    def __sub__(self, value):
        return self + (-self.other(value))

    def __rsub__(self, value):
        return self.other(value) - self

    def __mul__(self, value):
        right = self.other(value).parts
        parts = [0] * (len(self.parts) + len(right))
        for at, part in enumerate(self.parts):
            for above, factor in enumerate(right):
                parts[at + above] += part * factor
        return Poly(self.prime, parts)

    def __pow__(self, many):
        power = Poly(self.prime, [1])
        for _ in range(many):
            power = power * self
        return power

    __radd__, __rmul__ = __add__, __mul__

    def at(self, residue):
        return sum(part * residue ** power for power, part in enumerate(self.parts)) % self.prime

    def constant(self):
        assert len(self.parts) <= 1
        return self.parts[0] if self.parts else 0


class Callee:
    """A table or a function, called by square brackets."""

    def __init__(self, call):
        self.call = call

    def __getitem__(self, point):
        return self.call(point if isinstance(point, tuple) else (point,))


def written_call(node):
    """A call, (name, arguments), as it is written."""
    parts = node.slice.elts if isinstance(node.slice, ast.Tuple) else [node.slice]
    return node.value.id, tuple(part.id if isinstance(part, ast.Name) else part.value for part in parts)


class ToldCalls(ast.NodeTransformer):
    """Puts told[0], told[1], .. in the places of calls whose values are told."""

    def __init__(self, told):
        self.places = {call: at for at, call in enumerate(told)}

    def visit_Subscript(self, node):
        if written_call(node) not in self.places:
            return node
        at = ast.Constant(self.places[written_call(node)])
        return ast.Subscript(ast.Name('told', ast.Load()), at, ast.Load())


class Reference:
    def __init__(self, text):
        self.text = text
        self.tables = {}
        self.functions = {}
        for number, line in enumerate(text.split('\n'), 1):
            words = line.split(' ')
            if words[0] == 'prime':
                self.prime = int(words[1])
            elif words[0] == 'table':
                self.tables[words[1]] = tuple(map(int, words[2:]))
            else:
                equals = words.index('=')
                flat = words[equals + 1:-2]
                operators = tuple(zip(flat[::2], flat[1::2]))
                self.functions[words[1]] = (tuple(words[2:equals]), operators, words[-1], number)
                self.result = words[1]

    # What is worked out.

    def poly(self, value):
        return value if isinstance(value, Poly) else Poly(self.prime, [value])

    def table(self, name, point):
        total = self.poly(0)
        places = itertools.product((0, 1), repeat=len(point))
        for residue, place in zip(self.tables[name], places):
            weight = self.poly(residue)
            for bit, part in zip(place, point):
                weight = weight * (part if bit else 1 - part)
            total = total + weight
        return total

    def body(self, name, known, told=None):
        space = dict(known)
        for table in self.tables:
            space[table] = Callee(lambda point, table=table: self.table(table, tuple(map(self.poly, point))))
        for function in self.functions:
            space[function] = Callee(lambda point, function=function: self.function(function, point))
        tree = self.tree(name)
        if told:
            tree = ast.fix_missing_locations(ToldCalls(told).visit(tree))
            space['told'] = [self.poly(value) for value in told.values()]
        return self.poly(eval(compile(tree, 'body', 'eval'), {'__builtins__': {}}, space))

    def tree(self, name):
        return ast.parse(self.functions[name][2].replace('^', '**'), mode='eval')

    def behind(self, name, done, known, told=None):
        operators = self.functions[name][1]
        if done == len(operators):
            return self.body(name, known, told)
        word, bound = operators[done]
        low = self.behind(name, done + 1, {**known, bound: self.poly(0)}, told)
        high = self.behind(name, done + 1, {**known, bound: self.poly(1)}, told)
        return self.joined(word, low, high, known.get(bound))

    def joined(self, word, low, high, at):
        if word == 'sum':
            return low + high
        if word == 'all':
            return low * high
        if word == 'some':
            return 1 - (1 - low) * (1 - high)
        return (1 - at) * low + at * high

    def function(self, name, point):
        parameters = self.functions[name][0]
        return self.behind(name, 0, {key: self.poly(part) for key, part in zip(parameters, point)})

    def value(self, name, point):
        point = tuple(map(self.poly, point))
        return (self.table if name in self.tables else self.function)(name, point).constant()

    # What the text says of the talk.

    def calls(self, name):
        found = []
        for node in ast.walk(self.tree(name)):
            if isinstance(node, ast.Subscript) and node.value.id in self.functions:
                found.append((node.col_offset, written_call(node)))
        text = self.functions[name][2].replace('^', '**')
        assert all(text[at:].startswith(call[0]) for at, call in found)
        return tuple(dict.fromkeys(call for _, call in sorted(found, key=lambda pair: pair[0])))

    def body_degree(self, node, name):
        if isinstance(node, ast.BinOp):
            left = self.body_degree(node.left, name)
            if isinstance(node.op, ast.Pow):
                return left * node.right.value
            right = self.body_degree(node.right, name)
            return left + right if isinstance(node.op, ast.Mult) else max(left, right)
        if isinstance(node, ast.Subscript):
            hits = [at for at, part in enumerate(written_call(node)[1]) if part == name]
            if node.value.id in self.tables:
                return len(hits)
            called = self.functions[node.value.id][0]
            return sum(self.degree(node.value.id, called[at]) for at in hits)
        return int(isinstance(node, ast.Name) and node.id == name)

    def degree(self, function, name, first=0):
        degree = self.body_degree(self.tree(function).body, name)
        for word, bound in self.functions[function][1][first:][::-1]:
            if bound == name:
                degree = min(1, degree) if word == 'low' else 0
            elif word in ('all', 'some'):
                degree *= 2
        return degree

    def rounds(self, function):
        operators = self.functions[function][1]
        return tuple(self.degree(function, name, at + 1) for at, (_, name) in enumerate(operators))

    def claims(self):
        """For each reached function the (caller, call) pairs that claim something of it."""
        claims = {self.result: [None]}
        for caller in list(self.functions)[::-1]:
            for call in self.calls(caller) if caller in claims else ():
                claims.setdefault(call[0], []).append((caller, call))
        return claims

    def steps(self):
        steps = []
        claims = self.claims()
        for name in list(self.functions)[::-1]:
            if name in claims:
                parameters, operators = self.functions[name][:2]
                total = sum(self.degree(name, parameter) for parameter in parameters)
                steps += [('line', name, total)] * (len(claims[name]) - 1)
                pairs = zip(operators, self.rounds(name))
                steps += [('round', name, word, bound, degree) for (word, bound), degree in pairs]
                steps.append(('parts', name, self.calls(name)))
        return tuple(steps)

    def ways(self):
        claims = self.claims()

        def behind(name):
            ends = [(call[0], claims[call[0]].index((name, call))) for call in self.calls(name)]
            return [(end,) + way for end in ends for way in behind(end[0])] if ends else [()]

        return [((self.result, 0),) + way for way in behind(self.result)]

    def along(self, way):
        """How many rows of throws this way does not catch, throw by throw."""
        on = dict(way)
        rows = caught = 1
        line = {}
        for step in self.steps():
            if step[0] == 'parts':
                continue
            lies = step[1] in on
            if step[0] == 'line':
                line[step[1]] = line.get(step[1], 0) + 1
                lies = lies and line[step[1]] >= max(on[step[1]], 1)
            rows *= self.prime
            caught *= self.prime - min(step[-1], self.prime - 1) if lies else self.prime
        return rows - caught

    # Honest answers.

    def honest(self, ask):
        if ask[0] == 'values':
            return tuple(self.value(name, point) for name, point in ask[2])
        if ask[0] == 'line':
            point = [Poly(self.prime, [start, end - start]) for start, end in zip(ask[2], ask[3])]
            return self.long(self.function(ask[1], point), ask[4] + 1)
        known = {name: self.poly(residue) for name, residue in ask[3]}
        known[ask[4]] = Poly(self.prime, [0, 1])
        done = [name for _, name in self.functions[ask[1]][1]]
        rounds = [at for at, step in enumerate(self.steps()) if step[:2] == ('round', ask[1])]
        assert len(done) == len(rounds)
        return self.long(self.behind(ask[1], rounds.index(ask[-1]) + 1, known), ask[5] + 1)

    def long(self, poly, many):
        assert len(poly.parts) <= many
        return tuple(poly.parts) + (0,) * (many - len(poly.parts))


def some_text(source, prime, tables, functions, operators=3, words=('sum', 'all', 'some', 'low'), depth=2,
              calls=0.3, powers=(2, 3, 4), most=3):
    """The text of some book, of so many tables and functions, the last one the result."""
    lines = []
    callable_ = {}
    for name in ('tab', 'ta', 'tb', 'tc', 'td', 'te', 'tf', 'tg')[:tables]:
        many = source.randint(1, most)
        lines.append(f"table {name} " + ' '.join(str(source.randrange(prime)) for _ in range(2 ** many)))
        callable_[name] = many
    for at, name in enumerate(('fa', 'f', 'ff', 'fb', 'fc', 'fd', 'fe')[:functions - 1] + ('out',)):
        many = 0 if name == 'out' else source.randint(1, 2)
        parameters = ['u', 'w'][:many]
        known = list(parameters)
        parts = []
        for _ in range(source.randint(0, operators)):
            word = source.choice(words)
            if word == 'low' and not known:
                word = 'sum'
            if word == 'low':
                bound = source.choice(known)
            else:
                bound = ('x', 'y', 'z', 'a', 'b', 'c', 'd', 'e')[len(known)]
                known.append(bound)
            parts.append(f'{word} {bound}')
        body = some_body(source, prime, known, callable_, depth, calls, powers)
        lines.append(' '.join(['let', name, *parameters, '=', *parts, ':', body]))
        callable_[name] = many
    return '\n'.join([f'prime {prime}'] + lines)


def some_body(source, prime, known, callable_, depth, calls, powers):
    def argument():
        return source.choice(known) if known and source.random() < 0.8 else str(source.randrange(prime))

    def atom(left):
        if callable_ and source.random() < 0.5:
            names = list(callable_)
            functions = [name for name in names if name.startswith('f')]
            tables = [name for name in names if name.startswith('t')]
            pool = functions if functions and (source.random() < calls or not tables) else tables
            name = source.choice(pool)
            return f"{name}[{','.join(argument() for _ in range(callable_[name]))}]"
        if left and source.random() < 0.4:
            return '(' + expression(left - 1) + ')'
        return argument()

    def factor(left):
        power = f'^{source.choice(powers)}' if powers and source.random() < 0.2 else ''
        return atom(left) + power

    def expression(left):
        text = ''
        for at in range(source.randint(1, 3)):
            text += (source.choice('+-') if at else '') + factor(left)
            if source.random() < 0.4:
                text += '*' + factor(left)
        return text

    while True:
        text = expression(depth)
        if len(text) <= 120:
            return text
