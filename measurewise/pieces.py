"""The pieces that a program's text is parted into.

A piece is a tuple (kind, value, place, end): where it begins, and where the next one is looked for. The kind is the
piece's own text for a word, a sign or a line end; "name", "number", "measure" or "power" for one of these, the value
being the name, the fraction, the unit or the exponent; and "end" behind the last one.
"""

from measurewise.errors import BadText, BadUnit
from measurewise.forms import MOST_POWER
from measurewise.fractions import fraction
from measurewise.signs import MOST_LETTERS, WORDS, is_small_letter
from measurewise.units import read_unit

SIGNS = "+-*/(),<=\n"
MOST_FIGURES = 9


def is_figure(sign):
    return "0" <= sign <= "9"


def is_in_figures(text, at):
    """Whether at a place stands a figure, or a colon with a figure right behind it."""
    if is_figure(text[at]):
        return True
    return text[at] == ":" and at + 1 < len(text) and is_figure(text[at + 1])


def end_of_blanks(text, at):
    end = at
    while end < len(text) and text[end] == " ":
        end = end + 1
    return end


def end_of_letters(text, at):
    end = at
    while end < len(text) and is_small_letter(text[end]):
        end = end + 1
    return end


def end_of_figures(text, at):
    end = at
    while end < len(text) and is_in_figures(text, end):
        end = end + 1
    return end


def letters_piece(text, place):
    end = end_of_letters(text, place)
    letters = text[place:end]
    if letters in WORDS:
        return (letters, letters, place, end)
    if len(letters) > MOST_LETTERS:
        raise BadText(place)
    return ("name", letters, place, end)


def is_whole_text(figures):
    return len(figures) <= MOST_FIGURES and (figures == "0" or not figures.startswith("0"))


def number_piece(text, place):
    end = end_of_figures(text, place)
    parts = text[place:end].split(":")
    if len(parts) > 2 or not all([is_whole_text(part) for part in parts]):
        raise BadText(place)
    below = int(parts[1]) if len(parts) == 2 else 1
    if below == 0:
        raise BadText(place)
    return ("number", fraction(int(parts[0]), below), place, end)


def unit_piece(text, place):
    close = text.find("]", place)
    if close < 0:
        raise BadText(place)
    try:
        unit = read_unit(text[place + 1:close])
    except BadUnit:
        raise BadText(place) from None
    return ("measure", unit, place, close + 1)


def power_piece(text, place):
    first = place + 2 if text.startswith("-", place + 1) else place + 1
    end = end_of_figures(text, first)
    # A single sign is a figure: a colon is taken with a figure behind it alone.
    if end != first + 1:
        raise BadText(place)
    exponent = int(text[place + 1:end])
    is_needless_minus = exponent == 0 and first == place + 2
    if is_needless_minus or not -MOST_POWER <= exponent <= MOST_POWER:
        raise BadText(place)
    return ("power", exponent, place, end)


def piece_at(text, at):
    """The first piece from a place on; BadText with the place of a sign that begins none."""
    place = end_of_blanks(text, at)
    if place == len(text):
        return ("end", "", place, place)
    sign = text[place]
    if is_small_letter(sign):
        return letters_piece(text, place)
    if is_figure(sign):
        return number_piece(text, place)
    if sign == "[":
        return unit_piece(text, place)
    if sign == "^":
        return power_piece(text, place)
    if sign in SIGNS:
        return (sign, sign, place, place + 1)
    raise BadText(place)
