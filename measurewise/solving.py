"""Equations of exponents, solved in whole numbers, or shown to clash.

All that fulfils the equations taken in so far is told by vectors with a number for each unknown: one for each name,
and one for each open unit, of which any multiple may be added. Those of the open units stand in steps, and those of
names are lessened by them, so that the numbers stay small, however many equations there are.
"""

from measurewise.errors import BadNumber
from measurewise.fractions import common_divisor
from measurewise.signs import is_whole, need_whole
from measurewise.vectors import Step, lessened, marks_of, mixed, one_at, parted, reach_of, rows_of

MOST_UNKNOWNS = 240
MOST_NAMES = 6
MOST_EQUATIONS = 240


def left_over(number, modulus):
    """What is left of a number by a modulus; by 0 all of it."""
    if modulus == 0:
        return number
    return number % modulus


def all_left_over(vector, modulus):
    return [left_over(number, modulus) for number in vector]


class Spent:
    """A vector that an equation, by its number, leaves open no more, and what the equation comes to by it."""

    def __init__(self, number, vector, reach):
        self.number = number
        self.vector = vector
        self.reach = reach


class Solution:
    """All that fulfils the equations taken in so far, and what they have left open no more.

    Steps and fixed are the vectors of open units and of names; these lists are replaced, never changed.
    """

    def __init__(self, unknowns, steps, fixed):
        self.unknowns = unknowns
        self.steps = steps
        self.fixed = fixed
        self.spent = []

    def take_in(self, number, equation):
        """None; but where no exponents fulfil it too, what it comes to a multiple of by all that is open."""
        marks = marks_of(equation[:self.unknowns])
        found = parted(self.steps, marks)
        reach = found[2]
        sums = [reach_of(vector, marks) + own for vector, own in zip(self.fixed, equation[self.unknowns:])]
        if any([left_over(own, reach) != 0 for own in sums]):
            return reach
        if reach > 0:
            self.steps = found[0]
            self.fixed = [lessened(mixed(1, vector, -(own // reach), found[1]), self.steps)
                          for vector, own in zip(self.fixed, sums)]
            self.spent.append(Spent(number, found[1], reach))
        return None

    def rows_told(self):
        return rows_of([step.vector for step in self.steps] + self.fixed, self.unknowns)


def open_solution(unknowns, names):
    """All exponents: no equation is taken in."""
    steps = [Step(place, one_at(place, unknowns)) for place in range(unknowns)]
    return Solution(unknowns, steps, [[0] * unknowns for name in range(names)])


def clash_of(solution, equations, number, reach):
    """A tuple (factors, modulus), where an equation has come to multiples of reach by all that is open.

    Each vector that is open no more is made to come to a multiple, too, by the equation that has spent it, from the
    last one on: the equations ahead come to 0 by it, so that it stays so.
    """
    factors = one_at(number, len(equations))
    total = equations[number]
    modulus = reach
    for spent in reversed(solution.spent):
        own = left_over(reach_of(spent.vector, marks_of(total[:solution.unknowns])), modulus)
        scale = spent.reach // common_divisor(own, spent.reach)
        times = own * scale // spent.reach
        modulus = modulus * scale
        total = all_left_over(mixed(scale, total, -times, equations[spent.number]), modulus)
        factors = all_left_over(mixed(scale, factors, -times, one_at(spent.number, len(equations))), modulus)
    return (factors, modulus)


def nearest(number, modulus):
    """The number that is left as well by a modulus, but is as near to nought as can be."""
    rest = left_over(number, modulus)
    return rest - modulus if modulus > 0 and 2 * rest > modulus else rest


def shortened(factors, modulus):
    """A tuple (factors, modulus) that shows the same by smaller numbers."""
    divisor = modulus
    for factor in factors:
        if factor != 0:
            divisor = abs(factor) if divisor == 0 else common_divisor(factor, divisor)
    least = modulus // divisor
    return ([nearest(factor // divisor, least) for factor in factors], least)


def solution_of(unknowns, names, equations):
    """What solved tells, of whatever counts."""
    solution = open_solution(unknowns, names)
    for number, equation in enumerate(equations):
        reach = solution.take_in(number, equation)
        if reach is not None:
            found = clash_of(solution, equations, number, reach)
            short = shortened(found[0], found[1])
            return ("clash", short[0], short[1])
    return ("solved", len(solution.steps), solution.rows_told())


def is_equation(thing, length):
    if not isinstance(thing, list) or len(thing) != length:
        return False
    return all([is_whole(number) for number in thing])


def need_equations(unknowns, names, equations):
    """None, where these are counts and a list of equations; BadNumber."""
    need_whole(unknowns, 0, MOST_UNKNOWNS)
    need_whole(names, 0, MOST_NAMES)
    if not isinstance(equations, list) or len(equations) > MOST_EQUATIONS:
        raise BadNumber("no list of equations")
    if not all([is_equation(equation, unknowns + names) for equation in equations]):
        raise BadNumber("no equation")


def solved(unknowns, names, equations):
    need_equations(unknowns, names, equations)
    return solution_of(unknowns, names, equations)
