"""Programs run with units: a value's mark is its unit, None for any unit."""

from measurewise.errors import Unlike
from measurewise.reckoning import Reckoner
from measurewise.running import need_taken
from measurewise.scopes import need_program
from measurewise.units import joined, powered


class Marked(Reckoner):
    """Reckons with units, and refuses unlike ones with Unlike."""

    def mark_of(self, unit):
        return unit

    def like(self, one, other):
        if one is None:
            return other
        if other is not None and one != other:
            raise Unlike(one, other)
        return one

    def together(self, one, other, times):
        if one is None or other is None:
            return None
        return joined(one, powered(other, times))

    def raised(self, one, exponent):
        if exponent == 0:
            return ()
        return None if one is None else powered(one, exponent)


def run_marked(program, taken):
    need_program(program)
    need_taken(program, taken)
    reckoner = Marked()
    return reckoner.outcome(program, taken)
