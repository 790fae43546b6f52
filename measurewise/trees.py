"""Expressions as trees of nodes, a class for each sort.

What a node is told as is settled when it is made: whatever is done later to the nodes it was made of, or to those
that it tells as its kids, it stays what it was.
"""

from measurewise.errors import BadText
from measurewise.forms import is_expression, kids_of, levels_of
from measurewise.writing import written_expression


class Node:
    """Any expression; parts is the tuple that it is told as."""

    def __init__(self, parts):
        self.parts = parts

    def told(self):
        return self.parts

    def kids(self):
        return [made_of_told(kid) for kid in kids_of(self.parts)]

    def size(self):
        return len(levels_of(self.parts))

    def depth(self):
        return max(levels_of(self.parts))

    def written(self):
        return written_expression(self.parts)


class Number(Node):
    """A number in a unit; the unit is None of a nought of any unit."""

    def __init__(self, amount, unit):
        Node.__init__(self, ("number", amount, unit))
        self.amount = amount
        self.unit = unit


class Name(Node):
    """A name that stands for a value."""

    def __init__(self, name):
        Node.__init__(self, ("name", name))
        self.name = name


class Negative(Node):
    """A minus ahead of one."""

    def __init__(self, node):
        Node.__init__(self, ("negative", node.told()))
        self.node = node


class Sum(Node):
    """Two with a sign between, plus or minus."""

    def __init__(self, one, other, sign):
        Node.__init__(self, (sign, one.told(), other.told()))
        self.one = one
        self.other = other
        self.sign = sign


class Product(Node):
    """Two with a sign between, times or over."""

    def __init__(self, one, other, sign):
        Node.__init__(self, (sign, one.told(), other.told()))
        self.one = one
        self.other = other
        self.sign = sign


class Power(Node):
    """One to a whole power."""

    def __init__(self, node, exponent):
        Node.__init__(self, ("power", node.told(), exponent))
        self.node = node
        self.exponent = exponent


class Choice(Node):
    """Yes where one is less than the other, else no."""

    def __init__(self, one, other, yes, no):
        Node.__init__(self, ("if", one.told(), other.told(), yes.told(), no.told()))
        self.one = one
        self.other = other
        self.yes = yes
        self.no = no


class Loop(Node):
    """A start, and a body so many rounds, in which the name stands for the last value."""

    def __init__(self, name, start, rounds, body):
        Node.__init__(self, ("loop", name, start.told(), rounds, body.told()))
        self.name = name
        self.start = start
        self.rounds = rounds
        self.body = body


class Call(Node):
    """A function's name and its arguments, one to three nodes."""

    def __init__(self, name, nodes):
        Node.__init__(self, ("call", name, tuple([node.told() for node in nodes])))
        self.name = name
        self.nodes = tuple(nodes)


def made_of_told(told):
    """The node of what is told as expressions are, however large."""
    word = told[0]
    if word == "number":
        return Number(told[1], told[2])
    if word == "name":
        return Name(told[1])
    kids = [made_of_told(kid) for kid in kids_of(told)]
    if word == "negative":
        return Negative(kids[0])
    if word == "plus" or word == "minus":
        return Sum(kids[0], kids[1], word)
    if word == "times" or word == "over":
        return Product(kids[0], kids[1], word)
    if word == "power":
        return Power(kids[0], told[2])
    if word == "if":
        return Choice(kids[0], kids[1], kids[2], kids[3])
    if word == "loop":
        return Loop(told[1], kids[0], told[3], kids[1])
    return Call(told[1], kids)


def node_of(told):
    if not is_expression(told):
        raise BadText(None)
    return made_of_told(told)
