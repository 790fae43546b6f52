"""[A1], [A2] over the whole program: its interface, and what it promises of drawn programs."""

import copy
import importlib
import inspect
import random
import unittest

import drawn
import reckoned
import sound
from measurewise import errors
from measurewise.errors import Clash, MeasureError, Unlike
from measurewise.fractions import product_of
from measurewise.kinds import kinds_of
from measurewise.marked import run_marked
from measurewise.reading import read
from measurewise.running import run
from measurewise.scopes import need_program
from measurewise.turning import answers_turned, taken_turned, turned
from measurewise.units import measure_of
from measurewise.why import shown_why, why_not
from measurewise.writing import written

INTERFACE = {
    "signs": "is_whole(thing) is_name(thing) is_text(thing) need_whole(thing,least,most=None) need_name(thing)",
    "fractions": "fraction(above,below=1) is_fraction(thing) sum_of(one,other) product_of(one,other) "
                 "power_of(one,exponent) is_less(one,other) shown_fraction(one)",
    "units": "is_unit(thing) unit_of(pairs) joined(one,other) powered(unit,exponent) shown_unit(unit) read_unit(text) "
             "measure_of(unit,rates)",
    "trees": "Node.told(self) Node.kids(self) Node.size(self) Node.depth(self) Node.written(self) "
             "Number(amount,unit) Name(name) Negative(node) Sum(one,other,sign) Product(one,other,sign) "
             "Power(node,exponent) Choice(one,other,yes,no) Loop(name,start,rounds,body) Call(name,nodes) "
             "node_of(told)",
    "reading": "read(text)",
    "writing": "written(program)",
    "scopes": "need_program(program)",
    "solving": "solved(unknowns,names,equations)",
    "putting": "put_in(rows,free,names,found) met_by(rows,free,names,wanted)",
    "normal": "normal(free,names,rows)",
    "sums": "sums_of(program,kinds,number)",
    "kinds": "kinds_of(program)",
    "running": "run(program,taken)",
    "marked": "run_marked(program,taken)",
    "turning": "turned(program,rates) taken_turned(program,rates,taken) answers_turned(program,rates,answers)",
    "why": "fewest(unknowns,names,equations) why_not(program) shown_why(program)",
    "tables": "Table() Table.define(self,name,amount,unit) Table.drop(self,name) Table.all_made(self) "
              "Table.made_of(self,name) Table.plain(self,unit) Table.into(self,amount,unit,wanted)",
    "rounding": "Rounding() Down() Up() Away() Even() Rounding.shown(self,amount,figures) "
                "Rounding.settled(self,above,below) way_of(word)",
    "desk": "Desk() Desk.answer(self,line)",
}
FIELDS = {"BadNumber": "", "BadName": "", "BadUnit": "", "BadRate": "", "BadTable": "", "NoRow": "", "BadText": "at",
          "NoName": "row name", "Twice": "row name", "BadCount": "row name", "Steep": "row",
          "Clash": "row parts modulus", "Unlike": "one other", "Halted": "word"}


class Interface(unittest.TestCase):
    def test_names_and_arguments(self):
        for module, entries in INTERFACE.items():
            found = importlib.import_module("measurewise." + module)
            for entry in entries.split():
                name, rest = entry.split("(")
                thing = found
                for part in name.split("."):
                    thing = getattr(thing, part)
                self.assertEqual(str(inspect.signature(thing)).replace(" ", ""), "(" + rest, f"{module}.{name}")

    def test_refusals(self):
        self.assertEqual({kind.__name__ for kind in MeasureError.__subclasses__()}, set(FIELDS))
        self.assertEqual(MeasureError.__bases__, (ValueError,))
        for name, fields in FIELDS.items():
            refusal = getattr(errors, name)(*fields.split())
            self.assertEqual(vars(refusal), {field: field for field in fields.split()})


class LetBy(unittest.TestCase):
    def programs(self, seed, count):
        source = random.Random(seed)
        for turn in range(count):
            yield source, sound.program(source)[0]

    def test_what_is_read_of_what_is_written(self):
        for source, program in self.programs(161, 150):
            text = written(program)
            if len(text) <= 4000:
                self.assertEqual(read(text), program)
                self.assertEqual(read(drawn.loose_text(source, program)), program)

    def test_runs_and_marked_runs(self):
        """No run adds or compares unlike units; what is shown has the unit that its kind tells, or is 0."""
        seen = {"unit": 0, "any": 0, "open": 0}
        for source, program in self.programs(162, 200):
            taken = reckoned.drawn_taken(source, program)
            marked = run_marked(program, taken)
            self.assertEqual(marked[:-1] + (tuple(answer[0] for answer in marked[-1]),), run(program, taken))
            shows = [kind for row, kind in zip(program, kinds_of(program)) if row[0] == "show"]
            for (amount, unit), kind in zip(marked[-1], shows):
                if kind[0] or unit is None:
                    self.assertEqual(amount, (0, 1))
                    seen["open" if kind[0] else "any"] += 1
                else:
                    self.assertEqual(unit, kind[2][1])
                    seen["unit"] += 1
        self.assertGreater(min(seen.values()), 2, seen)

    def test_other_units(self):
        """Every answer comes out the same but for just the told power of the rates."""
        asked = 0
        for source, program in self.programs(163, 200):
            taken = reckoned.drawn_taken(source, program)
            rates = {row[1]: source.choice([(1, 1), (3, 2), (1, 100), (5, 1)]) for row in program if row[0] == "unit"}
            before = copy.deepcopy((program, taken, rates))
            plain = run(program, taken)
            other = run(turned(program, rates), taken_turned(program, rates, taken))
            shows = [kind for row, kind in zip(program, kinds_of(program)) if row[0] == "show"]
            for one, two, kind in zip(plain[-1], other[-1], shows):
                asked += 1
                self.assertEqual(product_of(one, measure_of(kind[2][1], rates)), two)
            if "great" not in (plain[-2], other[-2]):
                self.assertEqual(other, plain[:-1] + (answers_turned(program, rates, plain[-1]),))
            self.assertEqual(kinds_of(turned(program, rates)), kinds_of(program))
            self.assertEqual((program, taken, rates), before)
        self.assertGreater(asked, 200)

    def test_what_is_let_by_has_no_lines(self):
        for source, program in self.programs(164, 50):
            self.assertIsNone(why_not(program))
            self.assertEqual(shown_why(program), [])


class NotLetBy(unittest.TestCase):
    def test_sums_that_show_why(self):
        """What isn't let by for its units comes with lines that show it, and what isn't let by else is refused."""
        source = random.Random(165)
        seen = {"let by": 0, "clash": 0, "other": 0}
        for turn in range(300):
            program = sound.spoilt(source, sound.program(source)[0])
            if turn % 3 == 0 and len(program) > 1:
                number = source.randrange(len(program))
                program = program[:number] + program[number + 1:]
            try:
                need_program(program)
                kinds_of(program)
                seen["let by"] += 1
            except Clash as refusal:
                lines = shown_why(program)
                self.assertEqual(lines[0], f"row {refusal.row + 1}")
                self.assertTrue(lines[-1].startswith("left over"))
                self.assertGreater(len(lines), 2)
                seen["clash"] += 1
            except MeasureError as refusal:
                with self.assertRaises(refusal.__class__) as again:
                    shown_why(program)
                self.assertEqual(vars(again.exception), vars(refusal))
                seen["other"] += 1
        self.assertGreater(min(seen.values()), 10, seen)

    def test_unlike_units_are_met_only_where_the_program_is_not_let_by(self):
        source = random.Random(166)
        met = 0
        for turn in range(300):
            program = sound.program(source)[0]
            names = [row[1] for row in program if row[0] == "unit"]
            if names:
                wrong = tuple((row[0], row[1], ((names[0], 1),)) if row[0] == "take" else row for row in program)
                try:
                    run_marked(wrong, reckoned.drawn_taken(source, wrong))
                except Unlike:
                    met += 1
                    self.assertNotEqual(shown_why(wrong), [])
        self.assertGreater(met, 15)


if __name__ == "__main__":
    unittest.main()
