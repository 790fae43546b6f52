"""Programs and expressions as texts, with as few brackets as can be."""

from measurewise.forms import NOUGHT
from measurewise.fractions import shown_fraction
from measurewise.units import shown_unit

SIGNS = {"plus": "+", "minus": "-", "times": "*", "over": "/"}

# How tightly an expression holds together, by what reading asks for at a place: 0 anything at all, 1 a sum, 2 a
# product, 3 a signed one, 4 a single one. A power is a signed one: no power stands behind another.
HOLDS = {"if": 0, "loop": 0, "plus": 1, "minus": 1, "times": 2, "over": 2, "negative": 3, "power": 3,
         "number": 4, "name": 4, "call": 4}
SIGNED = 3
SINGLE = 4


def written_number(amount, unit):
    shown = shown_fraction(amount)
    # A nought without a unit would be read as that of any unit.
    if unit is None or (unit == () and amount != NOUGHT):
        return shown
    within = shown_unit(unit)
    return f"{shown}[{within}]"


def written_two(one, sign, other, least):
    """Two with a sign between, led from the left: on the right stands what holds tighter."""
    left = written_part(one, least)
    right = written_part(other, least + 1)
    return f"{left} {sign} {right}"


def written_choice(told):
    parts = [written_expression(kid) for kid in told[1:]]
    one = parts[0]
    other = parts[1]
    yes = parts[2]
    no = parts[3]
    return f"if {one} < {other} then {yes} else {no}"


def written_loop(name, start, rounds, body):
    first = written_expression(start)
    last = written_expression(body)
    return f"loop {name} = {first} for {rounds} do {last}"


def written_call(name, told):
    within = ", ".join([written_expression(kid) for kid in told])
    return f"{name}({within})"


def written_expression(told):
    word = told[0]
    if word == "number":
        return written_number(told[1], told[2])
    if word == "name":
        return told[1]
    if word == "negative":
        signed = written_part(told[1], SIGNED)
        return f"-{signed}"
    if word == "power":
        single = written_part(told[1], SINGLE)
        exponent = told[2]
        return f"{single}^{exponent}"
    if word == "if":
        return written_choice(told)
    if word == "loop":
        return written_loop(told[1], told[2], told[3], told[4])
    if word == "call":
        return written_call(told[1], told[2])
    return written_two(told[1], SIGNS[word], told[2], HOLDS[word])


def written_part(told, least):
    """An expression where what holds together so tightly at least is asked for; else in brackets."""
    text = written_expression(told)
    if HOLDS[told[0]] < least:
        return f"({text})"
    return text


def written_row(row):
    word = row[0]
    if word == "show":
        answer = written_expression(row[1])
        return f"show {answer}"
    name = row[1]
    if word == "unit":
        return f"unit {name}"
    if word == "take":
        unit = shown_unit(row[2])
        return f"take {name} [{unit}]"
    if word == "let":
        value = written_expression(row[2])
        return f"let {name} = {value}"
    params = ", ".join(row[2])
    body = written_expression(row[3])
    return f"fun {name}({params}) = {body}"


def written(program):
    return "\n".join([written_row(row) for row in program])
