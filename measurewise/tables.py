"""Tables of units that are made of others."""

from measurewise.errors import BadNumber, BadTable, BadUnit, NoName, Twice, Unlike
from measurewise.fractions import common_divisor, is_fraction, product_of, turned_over, whole_power
from measurewise.signs import need_name
from measurewise.units import ONE, is_unit, powered, unit_of

MOST_MADE = 12
MOST_EXPONENT = 64
MOST_FIGURES = 200


def with_power(parts, base, exponent):
    """Parts (base, exponent), of which no two bases have a common divisor, and a power more, as such parts.

    So what is above and below cancels ahead of being multiplied out: the powers themselves may have very many figures.
    """
    done = parts
    left = [(base, exponent)]
    while len(left) > 0:
        last = left.pop()
        met = [part for part in done if common_divisor(part[0], last[0]) > 1]
        if len(met) > 0:
            other = met[0]
            divisor = common_divisor(other[0], last[0])
            done = [part for part in done if part != other]
            left.append((other[0] // divisor, other[1]))
            left.append((last[0] // divisor, last[1]))
            left.append((divisor, last[1] + other[1]))
        elif last[0] > 1 and last[1] != 0:
            done = done + [last]
    return done


def multiplied_out(parts):
    """The product of powers with exponents above 0; BadTable as soon as it has too many figures."""
    bound = whole_power(10, MOST_FIGURES)
    total = 1
    for part in parts:
        for turn in range(part[1]):
            total = total * part[0]
            if total >= bound:
                raise BadTable("too many figures")
    return total


def product_of_powers(powers):
    """The fraction that powers (base, exponent) of whole numbers come to; BadTable."""
    parts = []
    for power in powers:
        parts = with_power(parts, power[0], power[1])
    above = multiplied_out([part for part in parts if part[1] > 0])
    below = multiplied_out([(part[0], -part[1]) for part in parts if part[1] < 0])
    return (above, below)


def powers_of(amount, exponent):
    """A fraction above nought to an exponent, as powers of whole numbers."""
    return [(amount[0], exponent), (amount[1], -exponent)]


def is_too_steep(unit):
    return any([abs(pair[1]) > MOST_EXPONENT for pair in unit])


class Table:
    """Units that are made of others: of each made name pairs has what was told, and bases what is plain of it.

    A name that stands in a made one's unit is neither made nor dropped, so what is plain stays as it is.
    """

    def __init__(self):
        self.pairs = {}
        self.bases = {}

    def need_made(self, name):
        need_name(name)
        if name not in self.pairs:
            raise NoName(None, name)

    def stands_in_one(self, name):
        return any([name in dict(pair[1]) for pair in self.pairs.values()])

    def define(self, name, amount, unit):
        need_name(name)
        if not is_fraction(amount) or amount[0] <= 0:
            raise BadNumber("no amount above nought")
        if not is_unit(unit):
            raise BadUnit("no unit")
        if name in self.pairs:
            raise Twice(None, name)
        if len(self.pairs) == MOST_MADE or name in dict(unit) or self.stands_in_one(name):
            raise BadTable("no room, or a name that leads back to itself")
        found = self.plain(unit)
        plain_amount = product_of_powers(powers_of(amount, 1) + powers_of(found[0], 1))
        self.pairs[name] = (amount, unit)
        self.bases[name] = (plain_amount, found[1])

    def drop(self, name):
        self.need_made(name)
        if self.stands_in_one(name):
            raise BadTable("a name that stands in another one's unit")
        self.pairs.pop(name)
        self.bases.pop(name)

    def all_made(self):
        return list(self.pairs)

    def made_of(self, name):
        self.need_made(name)
        return self.pairs[name]

    def plain(self, unit):
        if not is_unit(unit):
            raise BadUnit("no unit")
        if is_too_steep(unit):
            raise BadTable("too great an exponent")
        pairs = []
        powers = []
        for pair in unit:
            own = self.bases.get(pair[0], (ONE, ((pair[0], 1),)))
            pairs.extend(powered(own[1], pair[1]))
            powers.extend(powers_of(own[0], pair[1]))
        found = unit_of(pairs)
        if is_too_steep(found):
            raise BadTable("too great an exponent")
        return (product_of_powers(powers), found)

    def into(self, amount, unit, wanted):
        if not is_fraction(amount):
            raise BadNumber("no fraction")
        one = self.plain(unit)
        other = self.plain(wanted)
        if one[1] != other[1]:
            raise Unlike(one[1], other[1])
        return product_of(amount, product_of(one[0], turned_over(other[0])))
