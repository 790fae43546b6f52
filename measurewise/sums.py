"""The sums of a row: the units that are looked for in its expression, and what has to hold of them.

Within, a measure is a dict from unknowns, by their numbers, and from names of units to exponents.
"""

from measurewise.forms import kids_of


def combined(factor, one, other_factor, other):
    """One measure so many times and another one so many times, together."""
    total = {}
    for key, exponent in one.items():
        total[key] = factor * exponent
    for key, exponent in other.items():
        total[key] = total.get(key, 0) + other_factor * exponent
    return total


def measure_with(measure, unknowns):
    """A kind's measure, with unknowns for its open units."""
    total = dict(measure[1])
    for unknown, exponent in zip(unknowns, measure[0]):
        total[unknown] = exponent
    return total


class Sums:
    """What is gathered on the way through an expression: how many unknowns, equations as measures, and their places.

    Found tells of each name of a take, let or fun ahead its kind.
    """

    def __init__(self, found):
        self.found = found
        self.taken_up = 0
        self.holding = []
        self.ways = []

    def take_up(self, count):
        """A list of so many new unknowns."""
        first = self.taken_up
        self.taken_up = first + count
        return list(range(first, self.taken_up))

    def hold(self, way, which, one, other):
        """Takes in that two measures are one."""
        self.holding.append(combined(1, one, -1, other))
        self.ways.append((way, which))

    def look_through(self, told, way, inner):
        """The measure of a node, inner having those of params and loops' names.

        A node's unknowns are taken up ahead of its kids', and its equations behind theirs.
        """
        word = told[0]
        if word == "number":
            return self.measure_of_number(told[2])
        if word == "name":
            return self.measure_of_name(told[1], inner)
        if word == "loop":
            return self.measure_of_loop(told, way, inner)
        if word == "call":
            return self.measure_of_call(told, way, inner)
        kids = [self.look_through(kid, way + (place,), inner) for place, kid in enumerate(kids_of(told))]
        if word == "power":
            return combined(told[2], kids[0], 0, {})
        if word == "times":
            return combined(1, kids[0], 1, kids[1])
        if word == "over":
            return combined(1, kids[0], -1, kids[1])
        if word == "if":
            self.hold(way, 0, kids[0], kids[1])
            self.hold(way, 1, kids[2], kids[3])
            return kids[2]
        if word == "plus" or word == "minus":
            self.hold(way, 0, kids[0], kids[1])
        return kids[0]

    def measure_of_number(self, unit):
        if unit is None:
            return {self.take_up(1)[0]: 1}
        return dict(unit)

    def measure_of_name(self, name, inner):
        if name in inner:
            return inner[name]
        kind = self.found[name]
        return measure_with(kind[2], self.take_up(kind[0]))

    def measure_of_loop(self, told, way, inner):
        start = self.look_through(told[2], way + (0,), inner)
        within = dict(inner)
        within[told[1]] = start
        self.hold(way, 0, start, self.look_through(told[4], way + (1,), within))
        return start

    def measure_of_call(self, told, way, inner):
        kind = self.found[told[1]]
        unknowns = self.take_up(kind[0])
        kids = [self.look_through(kid, way + (place,), inner) for place, kid in enumerate(told[2])]
        for which, param in enumerate(kind[1]):
            self.hold(way, which, kids[which], measure_with(param, unknowns))
        return measure_with(kind[2], unknowns)


def units_of(program):
    """A list of the names of a program's units, as they are told."""
    return [row[1] for row in program if row[0] == "unit"]


def exponents_of(measure, unknowns, names):
    return [measure.get(key, 0) for key in list(range(unknowns)) + names]


def sums_of(program, kinds, number):
    row = program[number]
    params = row[2] if row[0] == "fun" else ()
    ahead = [place for place in range(number) if program[place][0] in ("take", "let", "fun")]
    sums = Sums(dict([(program[place][1], kinds[place]) for place in ahead]))
    inner = dict([(param, {unknown: 1}) for param, unknown in zip(params, sums.take_up(len(params)))])
    result = sums.look_through(row[-1], (), inner)
    names = units_of(program)
    rows = [exponents_of(measure, sums.taken_up, names) for measure in [inner[param] for param in params] + [result]]
    equations = [exponents_of(measure, sums.taken_up, names) for measure in sums.holding]
    return (sums.taken_up, rows, equations, list(sums.ways))
