"""Programs read from texts: piece by piece from the left, each one settled ahead of the next."""

from measurewise.errors import BadText
from measurewise.forms import MOST_PARAMS, MOST_ROUNDS, MOST_ROWS, MOST_UNITS, NOUGHT, is_expression
from measurewise.pieces import piece_at
from measurewise.signs import is_text

SUMS = {"+": "plus", "-": "minus"}
PRODUCTS = {"*": "times", "/": "over"}
MOST_OPEN = 12


class Reader:
    """A text, the piece that comes next, how many brackets, minuses, ifs and loops are open there, and how many units
    were told ahead."""

    def __init__(self, text):
        self.text = text
        self.piece = piece_at(text, 0)
        self.opened = 0
        self.units_read = 0

    def refuse(self):
        """Refuses the next piece; the end's place is the text's length."""
        raise BadText(self.piece[2])

    def meets(self, kind):
        return self.piece[0] == kind

    def step(self):
        """The value of the next piece, behind which the one to come is then looked for."""
        value = self.piece[1]
        self.piece = piece_at(self.text, self.piece[3])
        return value

    def need(self, kind):
        if not self.meets(kind):
            self.refuse()
        return self.step()

    def enter(self):
        """Steps over what opens one more."""
        if self.opened == MOST_OPEN:
            self.refuse()
        self.opened = self.opened + 1
        self.step()

    def leave(self):
        self.opened = self.opened - 1

    def read_program(self):
        rows = [self.read_row()]
        while self.meets("\n"):
            self.step()
            if len(rows) == MOST_ROWS:
                self.refuse()
            rows.append(self.read_row())
        return tuple(rows)

    def read_row(self):
        if self.meets("unit"):
            row = self.unit_row()
        elif self.meets("take"):
            row = self.take_row()
        elif self.meets("let"):
            row = self.let_row()
        elif self.meets("fun"):
            row = self.fun_row()
        else:
            self.need("show")
            row = ("show", self.expression())
        if not self.meets("\n") and not self.meets("end"):
            self.refuse()
        # Only here, since a piece that can't stand in the row comes ahead of its end.
        if row[0] in ("let", "fun", "show") and not is_expression(row[-1]):
            self.refuse()
        return row

    def unit_row(self):
        if self.units_read == MOST_UNITS:
            self.refuse()
        self.units_read = self.units_read + 1
        self.step()
        return ("unit", self.need("name"))

    def take_row(self):
        self.step()
        name = self.need("name")
        return ("take", name, self.need("measure"))

    def let_row(self):
        self.step()
        name = self.need("name")
        self.need("=")
        return ("let", name, self.expression())

    def fun_row(self):
        self.step()
        name = self.need("name")
        self.need("(")
        params = [self.need("name")]
        while self.meets(","):
            self.need_room(params)
            params.append(self.need("name"))
        self.need(")")
        self.need("=")
        return ("fun", name, tuple(params), self.expression())

    def need_room(self, found):
        """Steps over the comma of one more param or argument."""
        if len(found) == MOST_PARAMS:
            self.refuse()
        self.step()

    def expression(self):
        if self.meets("if"):
            return self.read_choice()
        if self.meets("loop"):
            return self.read_loop()
        return self.summed()

    def read_choice(self):
        self.enter()
        one = self.expression()
        self.need("<")
        other = self.expression()
        self.need("then")
        yes = self.expression()
        self.need("else")
        no = self.expression()
        self.leave()
        return ("if", one, other, yes, no)

    def read_loop(self):
        self.enter()
        name = self.need("name")
        self.need("=")
        start = self.expression()
        self.need("for")
        rounds = self.read_rounds()
        self.need("do")
        body = self.expression()
        self.leave()
        return ("loop", name, start, rounds, body)

    def read_rounds(self):
        amount = self.piece[1]
        if not self.meets("number") or amount[1] != 1 or amount[0] > MOST_ROUNDS:
            self.refuse()
        self.step()
        return amount[0]

    def summed(self):
        told = self.multiplied()
        while self.piece[0] in SUMS:
            word = SUMS[self.step()]
            told = (word, told, self.multiplied())
        return told

    def multiplied(self):
        told = self.signed()
        while self.piece[0] in PRODUCTS:
            word = PRODUCTS[self.step()]
            told = (word, told, self.signed())
        return told

    def signed(self):
        if self.meets("-"):
            self.enter()
            told = self.signed()
            self.leave()
            return ("negative", told)
        told = self.single()
        if self.meets("power"):
            return ("power", told, self.step())
        return told

    def single(self):
        if self.meets("number"):
            return self.read_number()
        if self.meets("name"):
            name = self.step()
            if self.meets("("):
                return ("call", name, self.read_arguments())
            return ("name", name)
        if not self.meets("("):
            self.refuse()
        self.enter()
        told = self.expression()
        self.need(")")
        self.leave()
        return told

    def read_number(self):
        amount = self.step()
        if self.meets("measure"):
            return ("number", amount, self.step())
        # Nought alone is the same in every unit, so its unit is left open.
        return ("number", amount, None if amount == NOUGHT else ())

    def read_arguments(self):
        self.enter()
        found = [self.expression()]
        while self.meets(","):
            self.need_room(found)
            found.append(self.expression())
        self.need(")")
        self.leave()
        return tuple(found)


def read(text):
    if not is_text(text):
        raise BadText(None)
    reader = Reader(text)
    return reader.read_program()
