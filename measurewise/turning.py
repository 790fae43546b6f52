"""Programs, numbers taken and answers turned to other units to measure in."""

from measurewise.errors import BadNumber, BadRate
from measurewise.forms import kids_of, with_kids
from measurewise.fractions import is_fraction, product_of
from measurewise.kinds import kinds_of
from measurewise.running import need_taken
from measurewise.scopes import need_program
from measurewise.sums import units_of
from measurewise.units import measure_of, need_rates


def need_all_rates(program, rates):
    """None, where these are rates, among them one for each of the program's units; BadRate."""
    need_rates(rates)
    for name in units_of(program):
        if name not in rates:
            raise BadRate("a unit without a rate")


def turned_amount(amount, unit, rates):
    return product_of(amount, measure_of(unit, rates))


def turned_expression(told, rates):
    if told[0] == "number" and told[2] is not None:
        return ("number", turned_amount(told[1], told[2], rates), told[2])
    return with_kids(told, [turned_expression(kid, rates) for kid in kids_of(told)])


def turned_row(row, rates):
    if row[0] == "unit" or row[0] == "take":
        return row
    return row[:-1] + (turned_expression(row[-1], rates),)


def turned(program, rates):
    need_program(program)
    need_all_rates(program, rates)
    return tuple([turned_row(row, rates) for row in program])


def own_copy(thing):
    """The same, but what could be changed within it is the asker's own."""
    if isinstance(thing, list):
        return [own_copy(part) for part in thing]
    if isinstance(thing, tuple):
        return tuple([own_copy(part) for part in thing])
    if isinstance(thing, dict):
        return dict([(key, own_copy(part)) for key, part in thing.items()])
    return thing


def taken_turned(program, rates, taken):
    need_program(program)
    need_all_rates(program, rates)
    need_taken(program, taken)
    total = own_copy(taken)
    for row in program:
        if row[0] == "take":
            total[row[1]] = turned_amount(taken[row[1]], row[2], rates)
    return total


def answers_turned(program, rates, answers):
    kinds = kinds_of(program)
    need_all_rates(program, rates)
    shows = [kind for row, kind in zip(program, kinds) if row[0] == "show"]
    if len(answers) > len(shows) or not all([is_fraction(answer) for answer in answers]):
        raise BadNumber("no answers of the program's shows")
    # Where a kind is open the answer is 0, which any rate leaves as it is.
    return tuple([turned_amount(answer, kind[2][1], rates) for answer, kind in zip(answers, shows)])
