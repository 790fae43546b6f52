"""Programs run with the numbers that they take."""

from measurewise.errors import BadNumber, NoName
from measurewise.fractions import is_fraction
from measurewise.reckoning import Plain
from measurewise.scopes import need_program


def need_taken(program, taken):
    """None, where each take has its number; NoName, BadNumber."""
    for row in program:
        if row[0] == "take":
            if row[1] not in taken:
                raise NoName(None, row[1])
            if not is_fraction(taken[row[1]]):
                raise BadNumber("no fraction")


def run(program, taken):
    need_program(program)
    need_taken(program, taken)
    reckoner = Plain()
    return reckoner.outcome(program, taken)
