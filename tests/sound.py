"""Programs drawn so that units fit: whatever is drawn here is to be let by.

A scene knows the names of units, of values with the units they have here, and of functions with their kinds. A unit is
a dict from names to exponents while it is drawn.
"""

from measurewise.errors import Steep
from measurewise.forms import is_expression, kids_of, with_kids
from measurewise.kinds import kind_of
from measurewise.units import unit_of

AMOUNTS = ((1, 1), (2, 1), (1, 2), (3, 4), (5, 1), (7, 3), (12, 1), (0, 1), (999999999, 1), (1, 1000))


class Scene:
    def __init__(self, units, values, functions):
        self.units, self.values, self.functions = units, values, functions

    def within(self, name, unit):
        values = {**self.values, name: unit}
        return Scene(self.units, values, {key: kind for key, kind in self.functions.items() if key != name})


def told_unit(unit):
    return unit_of(list(unit.items()))


def product(one, other, times=1):
    return {name: one.get(name, 0) + times * other.get(name, 0) for name in sorted({**one, **other})}


def drawn_unit(source, scene, size=2):
    return {name: source.randint(-size, size) * source.choice([0, 1]) for name in scene.units}


def is_small(unit):
    return all(-9 <= exponent <= 9 for exponent in unit.values())


def number(source, unit):
    if source.random() < 0.1:
        return ("number", (0, 1), None)
    return ("number", source.choice(AMOUNTS), told_unit(unit))


def leaf(source, scene, unit):
    fitting = [name for name in scene.values if told_unit(scene.values[name]) == told_unit(unit)]
    if fitting and source.random() < 0.7:
        return ("name", source.choice(fitting))
    if is_small(unit):
        return number(source, unit)
    # Of a unit with too great exponents: the half of it, and the rest.
    half = {name: exponent // 2 for name, exponent in unit.items()}
    return ("times", leaf(source, scene, half), leaf(source, scene, product(unit, half, -1)))


def call(source, scene, unit, depth):
    name = source.choice(sorted(scene.functions))
    free, params, result = scene.functions[name]
    found = [drawn_unit(source, scene, 1) for place in range(free)]

    def put_in(measure):
        total = dict(measure[1])
        for exponent, own in zip(measure[0], found):
            total = product(total, own, exponent)
        return total

    kids = tuple(expression(source, scene, put_in(param), depth - 1) for param in params)
    rest = product(unit, put_in(result), -1)
    told = ("call", name, kids)
    return told if not told_unit(rest) else ("times", told, leaf(source, scene, rest))


def power(source, scene, unit, depth):
    exponent = source.randint(-5, 5)
    inner = drawn_unit(source, scene, 1)
    told = ("power", expression(source, scene, inner, depth - 1), exponent)
    rest = product(unit, inner, -exponent)
    return told if not told_unit(rest) else ("times", leaf(source, scene, rest), told)


def expression(source, scene, unit, depth):
    """An expression of a unit, not much deeper than told."""
    if depth <= 1 or source.random() < 0.1:
        return leaf(source, scene, unit)
    words = ["negative", "plus", "minus", "times", "over", "power", "if", "loop"]
    words += ["call", "call"] if scene.functions else []
    word = source.choice(words)
    other = drawn_unit(source, scene)
    if word == "call":
        return call(source, scene, unit, depth)
    if word == "power":
        return power(source, scene, unit, depth)
    if word == "negative":
        return (word, expression(source, scene, unit, depth - 1))
    if word in ("plus", "minus"):
        return (word,) + tuple(expression(source, scene, unit, depth - 1) for side in range(2))
    if word in ("times", "over"):
        sign = 1 if word == "times" else -1
        one = product(unit, other, -sign)
        return (word, expression(source, scene, one, depth - 1), expression(source, scene, other, depth - 1))
    if word == "if":
        return (word,) + tuple(expression(source, scene, own, depth - 1) for own in (other, other, unit, unit))
    name = source.choice(["x", "y"] + sorted(scene.values))
    start = expression(source, scene, unit, depth - 1)
    return (word, name, start, source.randint(0, 4), expression(source, scene.within(name, unit), unit, depth - 1))


def small_expression(source, scene, unit, depth):
    while True:
        told = expression(source, scene, unit, depth)
        if is_expression(told):
            return told


def program(source, depth=4):
    """A tuple (program, assumed): of each row None, or the units of its params and its result as they were drawn."""
    units = list("mskg")[:source.randint(0, 3)]
    rows, kinds, assumed = [("unit", name) for name in units], [None] * len(units), [None] * len(units)
    scene = Scene(units, {}, {})
    for count in range(source.randint(1, 16 - len(units))):
        word = source.choice(["take", "let", "fun", "show", "show"])
        name = "abcdefhijlnopqrt"[count]
        unit = drawn_unit(source, scene)
        params = {}
        if word == "take":
            rows.append((word, name, told_unit(unit)))
        elif word == "let":
            rows.append((word, name, small_expression(source, scene, unit, depth)))
        elif word == "show":
            rows.append((word, small_expression(source, scene, unit, depth)))
        else:
            names = source.sample(["x", "y", "z"] + sorted(scene.values), source.randint(1, 3))
            params = {param: drawn_unit(source, scene) for param in names}
            inner = scene
            for param, own in params.items():
                inner = inner.within(param, own)
            rows.append((word, name, tuple(names), small_expression(source, inner, unit, depth)))
        assumed.append([told_unit(own) for own in params.values()] + [told_unit(unit)])
        try:
            kinds.append(kind_of(tuple(rows), kinds, len(rows) - 1))
        except Steep:
            # Units fit all the same, so it is the one refusal that may come.
            rows.pop()
            assumed.pop()
            continue
        if word == "fun":
            scene.functions[name] = kinds[-1]
        elif word != "show":
            scene.values[name] = unit
    return (tuple(rows), assumed) if rows else program(source, depth)


def spoilt_expression(source, told, units):
    if told[0] == "number" and told[2] is not None and source.random() < 0.5:
        return (told[0], told[1], ((source.choice(units), 1),))
    return with_kids(told, [spoilt_expression(source, kid, units) for kid in kids_of(told)])


def spoilt(source, program):
    """The same, but some numbers of one row have another unit, so that it may be let by or not."""
    units = [row[1] for row in program if row[0] == "unit"]
    places = [place for place, row in enumerate(program) if row[0] in ("let", "fun", "show")]
    if not units or not places:
        return program
    place = source.choice(places)
    row = program[place]
    row = row[:-1] + (spoilt_expression(source, row[-1], units),)
    return program[:place] + (row,) + program[place + 1:]
