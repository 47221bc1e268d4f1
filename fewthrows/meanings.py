"""What the text of a book means: the values of its tables, functions, operators, bodies."""

from fewthrows.rings import joined, raised, signed


class Meaning:
    """The values of what stands in a book, in a ring; what was worked out is kept."""

    def __init__(self, reading, ring):
        self.reading = reading
        self.ring = ring
        self.zero = ring.plain(0)
        self.one = ring.plain(1)
        self.folds = {}
        self.worked = {}

    def folded(self, name, point):
        """The table with as many names less as the point has, these standing for the point."""
        key = (name, point)
        if key not in self.folds:
            if point == ():
                table = tuple([self.ring.plain(residue) for residue in self.reading.tables[name]])
            else:
                table = self.folded_once(self.folded(name, point[:-1]), point[-1])
            self.folds[key] = table
        return self.folds[key]

    def folded_once(self, table, along):
        """The table of one name less; at 0 and 1 nothing has to be worked out."""
        half = len(table) // 2
        if along == self.zero:
            return table[:half]
        if along == self.one:
            return table[half:]
        return self.ring.folded(table, along)

    def called(self, name, point):
        """The value of a table or a function at a point."""
        if name in self.reading.tables:
            return self.folded(name, point)[0]
        key = (name, point)
        if key not in self.worked:
            line = self.reading.functions[name]
            self.worked[key] = self.behind(line, 0, dict(zip(line.parameters, point)))
        return self.worked[key]

    def behind(self, line, done, names):
        """The value of all that stands behind so many operators of a line.

        names tells what each name stands for that is known by then.
        """
        if done == len(line.operators):
            return self.body_value(line.program, names, {})
        word, name = line.operators[done]
        at = names.get(name, self.zero)
        # Where its name stands for 0 or 1, low changes nothing.
        if word == 'low' and at in (self.zero, self.one):
            return self.behind(line, done + 1, names)
        low = self.behind(line, done + 1, {**names, name: self.zero})
        high = self.behind(line, done + 1, {**names, name: self.one})
        return joined(self.ring, word, low, high, at)

    def body_value(self, program, names, told):
        """The value of a body; told has the values of calls that are not to be worked out."""
        stack = []
        for order in program:
            if order[0] in ('+', '-', '*'):
                other = stack.pop()
                one = stack.pop()
                stack.append(signed(self.ring, order[0], one, other))
            elif order[0] == '^':
                stack.append(raised(self.ring, stack.pop(), order[1]))
            elif order[0] == 'number':
                stack.append(self.ring.plain(order[1]))
            elif order[0] == 'name':
                stack.append(names[order[1]])
            elif order[1:] in told:
                stack.append(told[order[1:]])
            else:
                stack.append(self.called(order[1], self.point_of(order[2], names)))
        return stack[0]

    def point_of(self, arguments, names):
        """What the arguments of a call stand for."""
        return tuple([self.stands_for(argument, names) for argument in arguments])

    def stands_for(self, argument, names):
        """What a name or a written residue stands for."""
        if isinstance(argument, str):
            return names[argument]
        return self.ring.plain(argument)
