"""Fractions shown with figures behind the point, and the ways to round what is left out."""

from measurewise.errors import BadName, BadNumber
from measurewise.fractions import is_fraction, whole_power
from measurewise.signs import need_whole

MOST_FIGURES = 40


class Rounding:
    """Rounds to nought, if by itself."""

    def settled(self, above, below):
        """The whole number to which above by below, above from 0 on, is rounded."""
        return above // below

    def shown(self, amount, figures):
        if not is_fraction(amount):
            raise BadNumber("no fraction")
        need_whole(figures, 0, MOST_FIGURES)
        whole = self.settled(abs(amount[0]) * whole_power(10, figures), amount[1])
        # One figure at least stands ahead of the point.
        text = str(whole).zfill(figures + 1)
        sign = "-" if amount[0] < 0 and whole > 0 else ""
        if figures == 0:
            return sign + text
        return sign + text[:-figures] + "." + text[-figures:]


class Down(Rounding):
    """Rounds to nought."""


class Up(Rounding):
    """Rounds from nought, wherever something is left out."""

    def settled(self, above, below):
        return (above + below - 1) // below


class Away(Rounding):
    """Rounds to the nearest, of two as near to the one farther from nought."""

    def settled(self, above, below):
        return (2 * above + below) // (2 * below)


class Even(Rounding):
    """Rounds to the nearest, of two as near to the even one."""

    def settled(self, above, below):
        whole = above // below
        twice = 2 * (above - whole * below)
        if twice > below or (twice == below and whole % 2 == 1):
            return whole + 1
        return whole


def way_of(word):
    if isinstance(word, str):
        if word == "down":
            return Down()
        if word == "up":
            return Up()
        if word == "away":
            return Away()
        if word == "even":
            return Even()
    raise BadName("no way to round")
