"""The kinds of a program's rows: of each the most open one that its sums allow, or a refusal that shows why not."""

from measurewise.errors import Clash, Steep
from measurewise.normal import normal
from measurewise.scopes import need_program
from measurewise.solving import solution_of
from measurewise.sums import sums_of, units_of
from measurewise.units import unit_of
from measurewise.vectors import mixed

MOST_STEEP = 64


def parts_of(places, factors):
    """A tuple of (place, factor) for each factor that is not 0."""
    return tuple([(place, factor) for place, factor in zip(places, factors) if factor != 0])


def row_by(free, solution, row):
    """A row of exponents told by open units: what a solution has for each unknown is put in."""
    total = [0] * free + row[len(solution):]
    for times, own in zip(row, solution):
        total = mixed(1, total, times, own)
    return total


def measure_by(free, names, row):
    return (tuple(row[:free]), unit_of(list(zip(names, row[free:]))))


def is_steep(row):
    return any([abs(exponent) > MOST_STEEP for exponent in row])


def kind_by_sums(program, kinds, number):
    """The kind of a row let, fun or show, by those of the rows ahead."""
    sums = sums_of(program, kinds, number)
    names = units_of(program)
    told = solution_of(sums[0], len(names), sums[2])
    if told[0] == "clash":
        raise Clash(number, parts_of(sums[3], told[1]), told[2])
    found = normal(told[1], len(names), [row_by(told[1], told[2], row) for row in sums[1]])
    if any([is_steep(row) for row in found[1]]):
        raise Steep(number)
    measures = [measure_by(found[0], names, row) for row in found[1]]
    return (found[0], tuple(measures[:-1]), measures[-1])


def kind_of(program, kinds, number):
    """The kind of a row, whichever it is; None of a unit."""
    row = program[number]
    if row[0] == "unit":
        return None
    if row[0] == "take":
        return (0, (), ((), row[2]))
    return kind_by_sums(program, kinds, number)


def kinds_of(program):
    need_program(program)
    kinds = []
    for number in range(len(program)):
        kinds.append(kind_of(program, kinds, number))
    return kinds
