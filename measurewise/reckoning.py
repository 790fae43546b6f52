"""Nodes reckoned one behind the other, in a run that always comes to an end.

Within, a value is a tuple (fraction, mark). The marks of a plain run are all None, those of a marked one units.
"""

from measurewise.errors import Halted
from measurewise.forms import NOUGHT, kids_of
from measurewise.fractions import is_less, power_of, product_of, sum_of, turned_over, whole_power

MOST_COUNTED = 3000
MOST_FIGURES = 200


class Reckoner:
    """What is known at a place of a run: values and functions of the rows ahead, and how many nodes were come to.

    By itself it has no marks but None: a class under it tells what they are, and what an answer is.
    """

    def __init__(self):
        self.worths = {}
        self.functions = {}
        self.counted = 0
        self.bound = whole_power(10, MOST_FIGURES)

    def mark_of(self, unit):
        return None

    def like(self, one, other):
        """The mark of two values that must have one unit."""
        return None

    def together(self, one, other, times):
        """The mark of a product of a value and so many times another one."""
        return None

    def raised(self, one, exponent):
        """The mark of a power."""
        return None

    def answer_of(self, value):
        return value

    def outcome(self, program, taken):
        answers = []
        for number, row in enumerate(program):
            try:
                self.reckon_row(row, taken, answers)
            except Halted as halted:
                return ("refused", number, halted.word, tuple(answers))
        return ("shown", tuple(answers))

    def reckon_row(self, row, taken, answers):
        if row[0] == "take":
            self.worths[row[1]] = (taken[row[1]], self.mark_of(row[2]))
        if row[0] == "let":
            self.worths[row[1]] = self.reckon(row[2], {})
        if row[0] == "fun":
            self.functions[row[1]] = row
        if row[0] == "show":
            answers.append(self.answer_of(self.reckon(row[1], {})))

    def reckon(self, told, inner):
        """The value of a node, inner having those of params and loops' names."""
        if self.counted == MOST_COUNTED:
            raise Halted("dry")
        self.counted = self.counted + 1
        word = told[0]
        if word == "number":
            value = (told[1], self.mark_of(told[2]))
        elif word == "name":
            value = inner[told[1]] if told[1] in inner else self.worths[told[1]]
        elif word == "if":
            value = self.chosen(told, inner)
        elif word == "loop":
            value = self.looped(told, inner)
        elif word == "call":
            value = self.called(told, inner)
        else:
            value = self.of_kids(told, inner)
        if abs(value[0][0]) >= self.bound or value[0][1] >= self.bound:
            raise Halted("great")
        return value

    def of_kids(self, told, inner):
        """The value of a minus ahead, a power, a sum or a product."""
        found = []
        # No comprehension: on some Pythons that is a call more within one another.
        for kid in kids_of(told):
            found.append(self.reckon(kid, inner))
        if told[0] == "negative":
            return negated(found[0])
        if told[0] == "power":
            return self.to_power(found[0], told[2])
        return self.of_two(told[0], found[0], found[1])

    def of_two(self, word, one, other):
        if word == "plus":
            return (sum_of(one[0], other[0]), self.like(one[1], other[1]))
        if word == "minus":
            return (sum_of(one[0], negated(other)[0]), self.like(one[1], other[1]))
        if word == "times":
            return (product_of(one[0], other[0]), self.together(one[1], other[1], 1))
        if other[0] == NOUGHT:
            raise Halted("nought")
        return (product_of(one[0], turned_over(other[0])), self.together(one[1], other[1], -1))

    def to_power(self, value, exponent):
        if value[0] == NOUGHT and exponent < 0:
            raise Halted("nought")
        return (power_of(value[0], exponent), self.raised(value[1], exponent))

    def chosen(self, told, inner):
        one = self.reckon(told[1], inner)
        other = self.reckon(told[2], inner)
        self.like(one[1], other[1])
        return self.reckon(told[3] if is_less(one[0], other[0]) else told[4], inner)

    def looped(self, told, inner):
        value = self.reckon(told[2], inner)
        for turn in range(told[3]):
            within = dict(inner)
            within[told[1]] = value
            found = self.reckon(told[4], within)
            value = (found[0], self.like(value[1], found[1]))
        return value

    def called(self, told, inner):
        row = self.functions[told[1]]
        within = {}
        for param, kid in zip(row[2], told[2]):
            within[param] = self.reckon(kid, inner)
        return self.reckon(row[3], within)


def negated(value):
    return ((-value[0][0], value[0][1]), value[1])


class Plain(Reckoner):
    """Reckons without units."""

    def answer_of(self, value):
        return value[0]
