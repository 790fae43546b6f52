"""What a program has to be: of the right form, and with names that stand for what they are used as."""

from measurewise.errors import BadCount, BadText, NoName, Twice
from measurewise.forms import MOST_PARAMS, MOST_ROWS, MOST_UNITS, is_expression, is_small_unit, kids_of, word_of
from measurewise.signs import is_name

LENGTHS = {"unit": 2, "take": 3, "let": 3, "fun": 4, "show": 2}


def are_params(thing):
    if not isinstance(thing, tuple) or not 1 <= len(thing) <= MOST_PARAMS:
        return False
    return all([is_name(param) for param in thing])


def is_row(thing):
    word = word_of(thing)
    if word not in LENGTHS or len(thing) != LENGTHS[word]:
        return False
    if word == "show":
        return is_expression(thing[1])
    if not is_name(thing[1]):
        return False
    if word == "take":
        return is_small_unit(thing[2])
    if word == "let":
        return is_expression(thing[2])
    if word == "fun":
        return are_params(thing[2]) and is_expression(thing[3])
    return True


def is_program(thing):
    if not isinstance(thing, tuple) or not 1 <= len(thing) <= MOST_ROWS:
        return False
    if not all([is_row(row) for row in thing]):
        return False
    return len([row for row in thing if row[0] == "unit"]) <= MOST_UNITS


class Scope:
    """A row by its number, and what names stand for there.

    Known tells of each name that rows ahead have told the row itself; inner has the names, params and those of loops,
    that stand for values whatever else they are.
    """

    def __init__(self, number, known, inner):
        self.number = number
        self.known = known
        self.inner = inner

    def within(self, name):
        """The scope in which one name more stands for a value."""
        inner = dict(self.inner)
        inner[name] = True
        return Scope(self.number, self.known, inner)

    def sort_of(self, name):
        """The word of the row that has told a name; None where none has."""
        if name in self.known:
            return self.known[name][0]
        return None

    def look_at_unit(self, unit):
        # Names in units are those of units, whatever stands for a value here.
        for pair in unit:
            if self.sort_of(pair[0]) != "unit":
                raise NoName(self.number, pair[0])

    def look_at_value(self, name):
        if name not in self.inner and self.sort_of(name) not in ("take", "let"):
            raise NoName(self.number, name)

    def look_at_call(self, name, count):
        if name in self.inner or self.sort_of(name) != "fun":
            raise NoName(self.number, name)
        if len(self.known[name][2]) != count:
            raise BadCount(self.number, name)

    def look_at(self, told):
        """Looks through an expression from the left, each node ahead of its kids."""
        word = told[0]
        if word == "number" and told[2] is not None:
            self.look_at_unit(told[2])
        if word == "name":
            self.look_at_value(told[1])
        if word == "call":
            self.look_at_call(told[1], len(told[2]))
        if word == "loop":
            self.look_at(told[2])
            inner = self.within(told[1])
            inner.look_at(told[4])
            return
        for kid in kids_of(told):
            self.look_at(kid)


def scope_of_params(scope, params):
    inner = scope
    for param in params:
        if param in inner.inner:
            raise Twice(scope.number, param)
        inner = inner.within(param)
    return inner


def look_at_row(number, row, known):
    scope = Scope(number, known, {})
    if row[0] == "show":
        scope.look_at(row[1])
        return
    if row[1] in known:
        raise Twice(number, row[1])
    if row[0] == "take":
        scope.look_at_unit(row[2])
    if row[0] == "let":
        scope.look_at(row[2])
    if row[0] == "fun":
        inner = scope_of_params(scope, row[2])
        inner.look_at(row[3])


def need_program(program):
    if not is_program(program):
        raise BadText(None)
    known = {}
    for number, row in enumerate(program):
        look_at_row(number, row, known)
        # Only now: a row's own name stands for nothing within it.
        if row[0] != "show":
            known[row[1]] = row
