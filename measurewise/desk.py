"""A desk: rows of a program, numbers taken and a table of units, asked and changed line by line."""

from measurewise.amounts import read_amount, read_bracketed, read_count, shown_bracketed
from measurewise.errors import BadCount, BadName, BadNumber, BadTable, BadText, BadUnit, Clash, MeasureError
from measurewise.errors import NoName, NoRow, Steep, Twice, Unlike
from measurewise.forms import NOUGHT
from measurewise.fractions import shown_fraction
from measurewise.kinds import kinds_of
from measurewise.reading import read
from measurewise.rounding import way_of
from measurewise.running import run
from measurewise.sums import units_of
from measurewise.tables import Table
from measurewise.units import shown_unit, shown_word
from measurewise.why import shown_why
from measurewise.writing import written_row

ROWS = ("unit", "take", "let", "fun", "show")


def shown_refusal(refusal):
    """The line that answers a refusal."""
    if isinstance(refusal, BadText):
        return shown_bad_text(refusal.at)
    if isinstance(refusal, (Twice, NoName, BadCount)):
        return shown_bad_name(refusal)
    if isinstance(refusal, Clash):
        return "clash"
    if isinstance(refusal, Steep):
        return "steep"
    if isinstance(refusal, Unlike):
        return "unlike"
    if isinstance(refusal, BadUnit):
        return "bad unit"
    if isinstance(refusal, BadTable):
        return "bad table"
    if isinstance(refusal, BadName):
        return "bad name"
    if isinstance(refusal, BadNumber):
        return "bad number"
    return "no row"


def shown_bad_text(at):
    return "bad text" if at is None else f"bad text {at}"


def shown_bad_name(refusal):
    name = refusal.name
    if isinstance(refusal, Twice):
        return f"twice {name}"
    if isinstance(refusal, NoName):
        return f"no name {name}"
    return f"bad count {name}"


def shown_measure(measure):
    words = [shown_word(f"?{number}", exponent)
             for number, exponent in enumerate(measure[0], start=1) if exponent != 0]
    if len(measure[1]) > 0:
        words.append(shown_unit(measure[1]))
    text = " ".join(words)
    return f"[{text}]"


def shown_kind(kind):
    if kind is None:
        return "unit"
    result = shown_measure(kind[2])
    if len(kind[1]) == 0:
        return result
    params = ", ".join([shown_measure(param) for param in kind[1]])
    return f"{params} -> {result}"


def numbered(texts):
    """Each text behind its number, counted from 1."""
    return [f"{number} {text}" for number, text in enumerate(texts, start=1)]


def or_nothing(lines):
    return lines if len(lines) > 0 else ["nothing"]


def with_unit(text, unit):
    """What is told of an answer: its unit stands behind it, but no unit isn't told."""
    if unit == ():
        return text
    behind = shown_bracketed(unit)
    return f"{text} {behind}"


def need_row(text, most):
    """The number, from 1 on, that a text writes; NoRow where it writes none, or one beyond the most."""
    try:
        number = read_count(text)
    except BadNumber:
        raise NoRow("no number") from None
    if not 1 <= number <= most:
        raise NoRow("no such row")
    return number


class Desk:
    """What has been put on it so far; what is refused leaves all of it as it was."""

    def __init__(self):
        self.program = ()
        self.numbers = {}
        self.table = Table()

    def answer(self, line):
        if not isinstance(line, str) or "\n" in line:
            return ["no such line"]
        try:
            lines = self.answer_line(line)
        except MeasureError as refusal:
            return [shown_refusal(refusal)]
        return ["no such line"] if lines is None else lines

    def answer_line(self, line):
        """The answer to a line; None where the line is none."""
        parts = line.partition(" ")
        if parts[0] in ROWS:
            return self.put_behind(line)
        if line == "rows":
            return or_nothing(numbered([written_row(row) for row in self.program]))
        if line == "kinds":
            return self.answer_kinds()
        if line == "tables":
            return or_nothing([self.shown_made(name) for name in self.table.all_made()])
        if parts[1] == "":
            return None
        return self.answer_rest(parts[0], parts[2])

    def answer_rest(self, word, rest):
        """The answer to a line that is parted at its first blank."""
        if word == "out":
            return self.take_out(rest)
        if word == "set":
            return self.set_number(rest)
        if word == "clear":
            return self.clear_number(rest)
        if word == "tell":
            return self.tell(rest)
        if word == "table":
            return self.make(rest)
        if word == "drop":
            self.table.drop(rest)
            return ["done"]
        if word == "why":
            lines = shown_why(self.program + read(rest))
            return lines if len(lines) > 0 else ["let by"]
        return None

    def put_behind(self, line):
        program = self.program + read(line)
        kinds_of(program)
        row = program[-1]
        if row[0] == "unit" and row[1] in self.table.all_made():
            raise Twice(None, row[1])
        self.program = program
        count = len(program)
        return [f"row {count}"]

    def take_out(self, text):
        number = need_row(text, len(self.program))
        row = self.program[number - 1]
        program = self.program[:number - 1] + self.program[number:]
        # No program at all is none to be looked at.
        if len(program) > 0:
            kinds_of(program)
        self.program = program
        if row[0] == "take" and row[1] in self.numbers:
            self.numbers.pop(row[1])
        return ["done"]

    def answer_kinds(self):
        if len(self.program) == 0:
            return ["nothing"]
        return numbered([shown_kind(kind) for kind in kinds_of(self.program)])

    def unit_of_take(self, name):
        for row in self.program:
            if row[0] == "take" and row[1] == name:
                return row[2]
        raise NoName(None, name)

    def set_number(self, rest):
        parts = rest.partition(" ")
        if parts[1] == "":
            return None
        unit = self.unit_of_take(parts[0])
        more = parts[2].partition(" ")
        amount = read_amount(more[0])
        if more[1] != "":
            amount = self.table.into(amount, read_bracketed(more[2]), unit)
        self.numbers[parts[0]] = amount
        return ["done"]

    def clear_number(self, name):
        self.unit_of_take(name)
        if name not in self.numbers:
            return [f"no value {name}"]
        self.numbers.pop(name)
        return ["done"]

    def tell(self, rest):
        parts = rest.partition(" ")
        if parts[1] == "":
            return self.tell_by(parts[0], None)
        if not parts[2].startswith("in "):
            return None
        unit = parts[2][len("in "):].partition(" to ")
        figures = unit[2].partition(" by ")
        if unit[1] == "" or figures[1] == "":
            return None
        return self.tell_by(parts[0], (unit[0], figures[0], figures[2]))

    def tell_by(self, text, wanted):
        """The answer of a show; wanted is None, or the texts of a unit, of a count of figures and of a way."""
        kinds = self.kinds_of_shows()
        number = need_row(text, len(kinds))
        for row in self.program:
            if row[0] == "take" and row[1] not in self.numbers:
                name = row[1]
                return [f"no value {name}"]
        outcome = run(self.program, self.numbers)
        if number > len(outcome[-1]):
            place = outcome[1] + 1
            word = outcome[2]
            return [f"refused {place} {word}"]
        answer = outcome[-1][number - 1]
        kind = kinds[number - 1]
        if wanted is None:
            return [with_unit(shown_fraction(answer), () if kind[0] > 0 else kind[2][1])]
        return [self.told_in(answer, kind, wanted)]

    def told_in(self, answer, kind, wanted):
        unit = read_bracketed(wanted[0])
        way = way_of(wanted[2])
        # What is left open is 0 of whatever unit, so also of this one.
        amount = self.table.into(NOUGHT, unit, unit) if kind[0] > 0 else self.table.into(answer, kind[2][1], unit)
        return with_unit(way.shown(amount, read_count(wanted[1])), unit)

    def kinds_of_shows(self):
        if len(self.program) == 0:
            return []
        return [kind for row, kind in zip(self.program, kinds_of(self.program)) if row[0] == "show"]

    def make(self, rest):
        parts = rest.partition(" = ")
        more = parts[2].partition(" ")
        if parts[1] == "" or more[1] == "":
            return None
        if parts[0] in units_of(self.program):
            raise Twice(None, parts[0])
        amount = read_amount(more[0])
        self.table.define(parts[0], amount, read_bracketed(more[2]))
        return ["done"]

    def shown_made(self, name):
        pair = self.table.made_of(name)
        amount = shown_fraction(pair[0])
        unit = shown_bracketed(pair[1])
        return f"{name} = {amount} {unit}"
