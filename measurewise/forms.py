"""What expressions are told as: tuples led by a word, with other such tuples, their kids, within; and the bounds."""

from measurewise.fractions import is_fraction
from measurewise.signs import is_name, is_whole
from measurewise.units import is_unit

LENGTHS = {"number": 3, "name": 2, "negative": 2, "plus": 3, "minus": 3, "times": 3, "over": 3, "power": 3,
           "if": 5, "loop": 5, "call": 3}
MOST_ROWS = 16
MOST_UNITS = 6
MOST_NODES = 40
MOST_DEPTH = 10
MOST_EXPONENT = 9
MOST_POWER = 5
MOST_ROUNDS = 12
MOST_PARAMS = 3
NOUGHT = (0, 1)


def is_within(thing, least, most):
    return is_whole(thing) and least <= thing <= most


def is_small_unit(thing):
    """Whether a thing is a unit that can be written: its exponents have one figure."""
    return is_unit(thing) and all([is_within(pair[1], -MOST_EXPONENT, MOST_EXPONENT) for pair in thing])


def is_number(amount, unit):
    if not is_fraction(amount) or amount[0] < 0:
        return False
    if unit is None:
        return amount == NOUGHT
    return is_small_unit(unit)


def word_of(thing):
    """The word that leads a tuple; None where no word does."""
    if isinstance(thing, tuple) and len(thing) > 0 and isinstance(thing[0], str):
        return thing[0]
    return None


def has_form(thing):
    """Whether a thing is told as an expression is, its kids left aside."""
    word = word_of(thing)
    if word not in LENGTHS or len(thing) != LENGTHS[word]:
        return False
    if word == "number":
        return is_number(thing[1], thing[2])
    if word == "name":
        return is_name(thing[1])
    if word == "power":
        return is_within(thing[2], -MOST_POWER, MOST_POWER)
    if word == "loop":
        return is_name(thing[1]) and is_within(thing[3], 0, MOST_ROUNDS)
    if word == "call":
        return is_name(thing[1]) and isinstance(thing[2], tuple) and 1 <= len(thing[2]) <= MOST_PARAMS
    return True


def kids_of(told):
    """A list of the expressions straight beneath one, in their order."""
    word = told[0]
    if word == "number" or word == "name":
        return []
    if word == "power":
        return [told[1]]
    if word == "loop":
        return [told[2], told[4]]
    if word == "call":
        return list(told[2])
    return list(told[1:])


def with_kids(told, kids):
    """An expression with other kids, as many as it has."""
    word = told[0]
    if word == "number" or word == "name":
        return told
    if word == "power":
        return (word, kids[0], told[2])
    if word == "loop":
        return (word, told[1], kids[0], told[3], kids[1])
    if word == "call":
        return (word, told[1], tuple(kids))
    return (word,) + tuple(kids)


def is_expression(thing):
    """Whether a thing is told as an expression is, with no more nodes, and no deeper, than they may be.

    Walked by a list, not by calls, and no farther than the bounds: what is handed in may be far deeper.
    """
    count = 0
    left = [(thing, 1)]
    while len(left) > 0:
        last = left.pop()
        count = count + 1
        if count > MOST_NODES or last[1] > MOST_DEPTH or not has_form(last[0]):
            return False
        for kid in kids_of(last[0]):
            left.append((kid, last[1] + 1))
    return True


def levels_of(told):
    """A list of how deep each node of an expression lies, itself at 1."""
    levels = []
    left = [(told, 1)]
    while len(left) > 0:
        last = left.pop()
        levels.append(last[1])
        for kid in kids_of(last[0]):
            left.append((kid, last[1] + 1))
    return levels
