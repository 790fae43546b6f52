"""Numbers and units as they are written in the lines of a desk."""

from measurewise.errors import BadNumber, BadUnit
from measurewise.fractions import fraction, shown_fraction
from measurewise.pieces import is_figure, is_whole_text
from measurewise.units import read_unit, shown_unit


def read_count(text):
    """The whole number that figures write, nine at most, without a 0 ahead but for 0 itself; BadNumber."""
    # Its length is looked at ahead of its signs: a line may be of any length.
    if text == "" or not is_whole_text(text) or not all([is_figure(sign) for sign in text]):
        raise BadNumber("no number")
    return int(text)


def read_amount(text):
    """The fraction that a text shows, just as fractions are shown; BadNumber."""
    size = text[1:] if text.startswith("-") else text
    parts = size.partition(":")
    above = read_count(parts[0])
    below = read_count(parts[2]) if parts[1] == ":" else 1
    amount = fraction(above if size == text else -above, below)
    if shown_fraction(amount) != text:
        raise BadNumber("not as it is shown")
    return amount


def read_bracketed(text):
    """The unit whose text stands between [ and ]; BadUnit."""
    if len(text) < 2 or not text.startswith("[") or not text.endswith("]"):
        raise BadUnit("no brackets")
    return read_unit(text[1:-1])


def shown_bracketed(unit):
    text = shown_unit(unit)
    return f"[{text}]"
