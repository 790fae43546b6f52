"""Units: tuples of pairs (name, exponent), rising by names; and the measures that rates make of them."""

from measurewise.errors import BadRate, BadUnit
from measurewise.fractions import is_fraction, power_of, product_of
from measurewise.signs import is_name, is_text, is_whole

ONE = (1, 1)


def is_pair(thing):
    """Whether a thing is a tuple (name, whole number)."""
    if not isinstance(thing, tuple) or len(thing) != 2:
        return False
    return is_name(thing[0]) and is_whole(thing[1])


def is_unit(thing):
    if not isinstance(thing, tuple):
        return False
    ahead = ""
    for pair in thing:
        if not is_pair(pair) or pair[1] == 0 or pair[0] <= ahead:
            return False
        ahead = pair[0]
    return True


def unit_of(pairs):
    if not isinstance(pairs, list) or not all([is_pair(pair) for pair in pairs]):
        raise BadUnit("no list of pairs")
    totals = {}
    for pair in pairs:
        totals[pair[0]] = totals.get(pair[0], 0) + pair[1]
    return tuple([(name, totals[name]) for name in sorted(totals) if totals[name] != 0])


def joined(one, other):
    return unit_of(list(one + other))


def powered(unit, exponent):
    return unit_of([(pair[0], pair[1] * exponent) for pair in unit])


def shown_word(name, exponent):
    if exponent == 1:
        return name
    return f"{name}^{exponent}"


def shown_unit(unit):
    return " ".join([shown_word(pair[0], pair[1]) for pair in unit])


def read_exponent(figures):
    """The exponent that stands behind a ^: just as it is shown, so no 1, which is never shown."""
    size = figures[1:] if figures.startswith("-") else figures
    if len(size) != 1 or not "1" <= size <= "9" or figures == "1":
        raise BadUnit("no exponent")
    return int(figures)


def read_word(word):
    parts = word.partition("^")
    if not is_name(parts[0]):
        raise BadUnit("no name")
    if parts[1] == "":
        return (parts[0], 1)
    return (parts[0], read_exponent(parts[2]))


def read_unit(text):
    if not is_text(text):
        raise BadUnit("no text")
    if text == "":
        return ()
    pairs = [read_word(word) for word in text.split(" ")]
    unit = unit_of(pairs)
    # No exponent read is 0, so only a name that stands twice leaves fewer pairs.
    if len(unit) < len(pairs):
        raise BadUnit("a name twice")
    return unit


def need_rates(rates):
    """None, where these are rates, all of them; BadRate."""
    if not isinstance(rates, dict):
        raise BadRate("no dict")
    for name, rate in rates.items():
        if not is_name(name) or not is_fraction(rate) or rate[0] <= 0:
            raise BadRate("no name with a fraction above nought")


def measure_of(unit, rates):
    need_rates(rates)
    measure = ONE
    for pair in unit:
        if pair[0] not in rates:
            raise BadRate("a name without a rate")
        measure = product_of(measure, power_of(rates[pair[0]], pair[1]))
    return measure
