"""Another way to run programs, by Python's own fractions, to hold the program's own against.

outcome(program, taken, marked) tells what is to be told; of a marked run that is refused ("unlike", one, other).
"""

import fractions

from measurewise.units import unit_of


class Stop(Exception):
    pass


def joined(one, other, times):
    if one is None or other is None:
        return None
    return unit_of(list(one) + [(name, exponent * times) for name, exponent in other])


class Machine:
    def __init__(self, taken, marked):
        self.taken, self.marked, self.left = taken, marked, 3000
        self.known, self.functions, self.answers = {}, {}, []

    def like(self, one, other):
        if self.marked and one is not None and other is not None and one != other:
            raise Stop("unlike", one, other)
        return other if one is None else one

    def step(self, row):
        if row[0] == "take":
            self.known[row[1]] = (fractions.Fraction(*self.taken[row[1]]), row[2])
        elif row[0] == "fun":
            self.functions[row[1]] = row[2:]
        elif row[0] == "let":
            self.known[row[1]] = self.value(row[2], self.known)
        elif row[0] == "show":
            amount, unit = self.value(row[1], self.known)
            told = (amount.numerator, amount.denominator)
            self.answers.append((told, unit) if self.marked else told)

    def value(self, told, known):
        if self.left == 0:
            raise Stop("dry")
        self.left -= 1
        amount, unit = getattr(self, "of_" + told[0])(known, *told[1:])
        if max(abs(amount.numerator), amount.denominator) >= 10 ** 200:
            raise Stop("great")
        return amount, unit

    def of_number(self, known, amount, unit):
        return fractions.Fraction(*amount), unit

    def of_name(self, known, name):
        return known[name]

    def of_negative(self, known, kid):
        amount, unit = self.value(kid, known)
        return -amount, unit

    def both(self, known, one, other):
        left, right = self.value(one, known), self.value(other, known)
        return left[0], right[0], left[1], right[1]

    def of_plus(self, known, one, other):
        left, right, unit, unlike = self.both(known, one, other)
        return left + right, self.like(unit, unlike)

    def of_minus(self, known, one, other):
        left, right, unit, unlike = self.both(known, one, other)
        return left - right, self.like(unit, unlike)

    def of_times(self, known, one, other):
        left, right, unit, behind = self.both(known, one, other)
        return left * right, joined(unit, behind, 1)

    def of_over(self, known, one, other):
        left, right, unit, behind = self.both(known, one, other)
        if right == 0:
            raise Stop("nought")
        return left / right, joined(unit, behind, -1)

    def of_power(self, known, kid, exponent):
        amount, unit = self.value(kid, known)
        if amount == 0 and exponent < 0:
            raise Stop("nought")
        product = fractions.Fraction(1)
        for turn in range(abs(exponent)):
            product *= amount
        return product if exponent >= 0 else 1 / product, joined((), unit, exponent) if exponent else ()

    def of_if(self, known, one, other, yes, no):
        left, right, unit, unlike = self.both(known, one, other)
        self.like(unit, unlike)
        return self.value(yes if left < right else no, known)

    def of_loop(self, known, name, start, rounds, body):
        last = self.value(start, known)
        for turn in range(rounds):
            amount, unit = self.value(body, {**known, name: last})
            last = (amount, self.like(last[1], unit))
        return last

    def of_call(self, known, name, kids):
        values = [self.value(kid, known) for kid in kids]
        params, body = self.functions[name]
        return self.value(body, {**self.known, **dict(zip(params, values))})


def outcome(program, taken, marked=False):
    machine = Machine(taken, marked)
    for number, row in enumerate(program):
        try:
            machine.step(row)
        except Stop as stop:
            if stop.args[0] == "unlike":
                return stop.args
            return ("refused", number, stop.args[0], tuple(machine.answers))
    return ("shown", tuple(machine.answers))


def drawn_taken(source, program):
    """A number for each take."""
    amounts = [(0, 1), (1, 1), (-1, 1), (3, 4), (-7, 3), (10, 1), (1, 1000), (10 ** 60, 7)]
    return {row[1]: source.choice(amounts) for row in program if row[0] == "take"}
