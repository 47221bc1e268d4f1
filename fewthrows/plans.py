"""Plans: what the text of a book alone says of degrees, and of the talk about its result."""

from fewthrows.errors import BadBook

GREATEST_DEGREE = 199
MOST_THROWS = 40


def joined_degree(sign, one, other):
    """The degree of two things that are joined by this sign."""
    if sign == '*':
        return one + other
    return max(one, other)


def body_degree(plan, program, name):
    """The degree of a body in name; the plan has those of all functions further up."""
    degrees = []
    for order in program:
        word = order[0]
        if word in ('+', '-', '*'):
            other = degrees.pop()
            one = degrees.pop()
            degrees.append(joined_degree(word, one, other))
        elif word == '^':
            degrees.append(degrees.pop() * order[1])
        elif word == 'table':
            degrees.append(order[2].count(name))
        elif word == 'call':
            degrees.append(plan.call_degree(order[1], order[2], name))
        else:
            degrees.append(1 if order == ('name', name) else 0)
    return degrees[0]


def behind_degree(word, bound, name, degree):
    """The degree in name of an operator, word bound, ahead of what has this degree."""
    if word == 'low':
        return min(degree, 1) if bound == name else degree
    if bound == name:
        return 0
    return degree if word == 'sum' else 2 * degree


class Plan:
    """Degrees, claims and steps of a book, function by function.

    degrees: {function: {parameter: degree}}; rounds: {function: degrees of its rounds};
    claims: {reached function: its claims, each of them (caller, call)};
    reached: the reached functions, from the last line to the first one;
    steps: as steps_of tells them; done: for each step the number of operators of its
    function that are done by then; throws: how many steps a throw stands behind.
    """

    def __init__(self, reading):
        self.functions = reading.functions
        self.degrees = {}
        self.rounds = {}
        for function, line in reading.functions.items():
            self.degrees[function] = {name: self.degree_behind(line, 0, name) for name in line.parameters}
            self.rounds[function] = tuple([
                self.degree_behind(line, at + 1, operator[1])
                for at, operator in enumerate(line.operators)
            ])
        self.claims = claims_of(reading)
        self.reached = tuple([name for name in reversed(list(reading.functions)) if name in self.claims])
        self.steps = tuple([step for function in self.reached for step in self.steps_for(function)])
        self.done = tuple([at for function in self.reached for at in self.done_for(function)])
        self.throws = len([step for step in self.steps if step[0] != 'parts'])

    def call_degree(self, function, arguments, name):
        """The degree in name of a call of a function further up."""
        degrees = self.degrees[function]
        pairs = zip(self.functions[function].parameters, arguments)
        return sum([degrees[parameter] for parameter, argument in pairs if argument == name])

    def degree_behind(self, line, first, name):
        """The degree in name of all that stands from the operator number first on."""
        degree = body_degree(self, line.program, name)
        for word, bound in reversed(line.operators[first:]):
            degree = behind_degree(word, bound, name, degree)
        return degree

    def line_degree(self, function):
        """The degree of the function along a line."""
        return sum(list(self.degrees[function].values()))

    def lines_many(self, function):
        """How many lines the function has."""
        return len(self.claims[function]) - 1

    def steps_for(self, function):
        """The steps of a reached function."""
        line = self.functions[function]
        steps = [('line', function, self.line_degree(function))] * self.lines_many(function)
        for operator, degree in zip(line.operators, self.rounds[function]):
            steps.append(('round', function, operator[0], operator[1], degree))
        steps.append(('parts', function, line.calls))
        return steps

    def done_for(self, function):
        """For each step of a reached function, how many of its operators are done."""
        return [0] * self.lines_many(function) + list(range(len(self.rounds[function]) + 1))


def claims_of(reading):
    """For each reached function its claims, (caller, call), in the order of their numbers."""
    # Nobody calls the result.
    claims = {reading.result: [('', ())]}
    for caller in reversed(list(reading.functions)):
        if caller in claims:
            for call in reading.functions[caller].calls:
                claims.setdefault(call[0], []).append((caller, call))
    return claims


def step_degree(step):
    """The degree of a step; 0 for parts, which have none."""
    if step[0] == 'parts':
        return 0
    return step[-1]


def plan_of(reading):
    """The plan of a book, unless one of its degrees or its number of throws is too great."""
    plan = Plan(reading)
    great = [
        reading.functions[step[1]].number for step in plan.steps
        if step_degree(step) > GREATEST_DEGREE
    ]
    if len(great) > 0:
        raise BadBook(min(great))
    if plan.throws > MOST_THROWS:
        raise BadBook(reading.functions[reading.result].number)
    return plan
