"""[R5] runs with units, [A1] that what is let by never meets unlike ones, and [A2] of them: measurewise.marked."""

import copy
import random
import unittest

import drawn
import reckoned
import sound
from measurewise.errors import BadNumber, BadText, NoName, Unlike
from measurewise.marked import Marked, run_marked
from measurewise.reading import read
from measurewise.reckoning import Reckoner
from measurewise.running import run
from samples import no_numbers_no_texts

M = (("m", 1),)
S = (("s", 1),)
HEAD = "unit m\nunit s\ntake a [m]\ntake b [s]\n"
TAKEN = {"a": (3, 1), "b": (5, 1)}


class Case(unittest.TestCase):
    def outcome(self, program, taken):
        """What is told of a marked run; ("unlike", one, other) where it is refused so."""
        before = copy.deepcopy((program, taken))
        try:
            told = run_marked(program, taken)
        except Unlike as refusal:
            told = ("unlike", refusal.one, refusal.other)
        self.assertEqual((program, taken), before)
        return told

    def ask(self, program, taken=None):
        program = read(program) if isinstance(program, str) else program
        taken = {} if taken is None else taken
        told = self.outcome(program, taken)
        self.assertEqual(self.outcome(program, taken), told)
        self.assertEqual(told, reckoned.outcome(program, taken, True))
        if told[0] != "unlike":
            self.assertEqual(told[-1].__class__, tuple)
            plain = run(program, taken)
            self.assertEqual(told[:-1] + (tuple(answer[0] for answer in told[-1]),), plain)
            for answer in told[-1]:
                self.assertEqual((answer.__class__, len(answer)), (tuple, 2))
        return told

    def value(self, text):
        """The value of an expression by the takes a, of 3 m, and b, of 5 s."""
        told = self.ask(HEAD + "show " + text, TAKEN)
        self.assertEqual(told[0], "shown", text)
        return told[1][0]

    def unlike(self, text, one, other):
        self.assertEqual(self.ask(HEAD + "show " + text, TAKEN), ("unlike", one, other))


class Values(Case):
    def test_numbers_noughts_and_takes(self):
        self.assertEqual(self.value("2[m s^-2]"), ((2, 1), (("m", 1), ("s", -2))))
        self.assertEqual(self.value("2"), ((2, 1), ()))
        self.assertEqual(self.value("0"), ((0, 1), None))
        self.assertEqual(self.value("0[]"), ((0, 1), ()))
        self.assertEqual(self.value("0[m]"), ((0, 1), M))
        self.assertEqual(self.value("a"), ((3, 1), M))

    def test_negative(self):
        self.assertEqual(self.value("-a"), ((-3, 1), M))
        self.assertEqual(self.value("-0"), ((0, 1), None))

    def test_times_and_over(self):
        self.assertEqual(self.value("a * b"), ((15, 1), (("m", 1), ("s", 1))))
        self.assertEqual(self.value("a / b"), ((3, 5), (("m", 1), ("s", -1))))
        self.assertEqual(self.value("a / a"), ((1, 1), ()))
        self.assertEqual(self.value("a * 1[m^-1]"), ((3, 1), ()))
        self.assertEqual(self.value("1 / a"), ((1, 3), (("m", -1),)))
        for text in ("0 * a", "a * 0", "0 / a", "0 * 0", "0 * 2"):
            self.assertEqual(self.value(text), ((0, 1), None), text)
        self.assertEqual(self.ask(HEAD + "show a / 0", TAKEN), ("refused", 4, "nought", ()))

    def test_powers(self):
        self.assertEqual(self.value("a^2"), ((9, 1), (("m", 2),)))
        self.assertEqual(self.value("(a / b)^-2"), ((25, 9), (("m", -2), ("s", 2))))
        self.assertEqual(self.value("a^0"), ((1, 1), ()))
        self.assertEqual(self.value("a^1"), ((3, 1), M))
        self.assertEqual(self.value("0^0"), ((1, 1), ()))
        self.assertEqual(self.value("0^3"), ((0, 1), None))
        self.assertEqual(self.value("0[m]^0"), ((1, 1), ()))
        self.assertEqual(self.value("0[m]^3"), ((0, 1), (("m", 3),)))

    def test_sums(self):
        for sign, answer in (("+", 4), ("-", 2)):
            self.assertEqual(self.value(f"a {sign} 1[m]"), ((answer, 1), M))
        self.assertEqual(self.value("a + 0"), ((3, 1), M))
        self.assertEqual(self.value("0 + a"), ((3, 1), M))
        self.assertEqual(self.value("0 - a"), ((-3, 1), M))
        self.assertEqual(self.value("0 + 2"), ((2, 1), ()))
        self.assertEqual(self.value("2 - 0"), ((2, 1), ()))
        self.assertEqual(self.value("0 + 0"), ((0, 1), None))
        self.assertEqual(self.value("a + (0 + 0)"), ((3, 1), M))
        self.assertEqual(self.value("a + 0 * b"), ((3, 1), M))

    def test_choices(self):
        self.assertEqual(self.value("if a < 2[m] then a else b"), ((5, 1), S))
        self.assertEqual(self.value("if a < 4[m] then a else b"), ((3, 1), M))
        self.assertEqual(self.value("if 0 < a then 0 else 1"), ((0, 1), None))
        self.assertEqual(self.value("if a < 0 then 1 else a * b"), ((15, 1), (("m", 1), ("s", 1))))
        self.assertEqual(self.value("if 0 < 0 then 1 else 2"), ((2, 1), ()))

    def test_loops(self):
        self.assertEqual(self.value("loop x = a for 3 do x + x"), ((24, 1), M))
        self.assertEqual(self.value("loop x = a for 0 do x * x"), ((3, 1), M))
        self.assertEqual(self.value("loop x = 0 for 0 do a"), ((0, 1), None))
        self.assertEqual(self.value("loop x = 0 for 3 do x + a"), ((9, 1), M))
        self.assertEqual(self.value("loop x = 0 for 2 do 0"), ((0, 1), None))
        # Behind a round the name has the unit that it had ahead, where the value has none.
        self.assertEqual(self.value("loop x = a for 1 do 0"), ((0, 1), M))
        self.assertEqual(self.value("loop x = a for 5 do if x < 1[m] then 0 else x - 1[m]"), ((0, 1), M))
        self.assertEqual(self.value("loop x = 0 for 4 do if x < a then x + 1[m] else 0"), ((0, 1), M))

    def test_calls_and_lets(self):
        rows = HEAD + "let c = a * b\nlet z = 0\nfun f(x) = x^2 / b\nfun g(x) = c\n"
        told = self.ask(rows + "show f(a)\nshow f(2)\nshow g(0)\nshow c\nshow z\nshow f(z)", TAKEN)
        self.assertEqual(told, ("shown", (((9, 5), (("m", 2), ("s", -1))), ((4, 5), (("s", -1),)),
                                          ((15, 1), (("m", 1), ("s", 1))), ((15, 1), (("m", 1), ("s", 1))),
                                          ((0, 1), None), ((0, 1), None))))


class UnlikeOnes(Case):
    def test_sums_and_choices(self):
        self.unlike("a + b", M, S)
        self.unlike("b - a", S, M)
        self.unlike("a + 1", M, ())
        self.unlike("1 - a", (), M)
        self.unlike("0[] + a", (), M)
        self.unlike("a + 0[s]", M, S)
        self.unlike("if a < b then 1 else 2", M, S)
        self.unlike("if 1 < b then 1 else 2", (), S)
        self.unlike("a + (0 + b)", M, S)
        self.unlike("0^0 + a", (), M)
        self.unlike("a * b + a", (("m", 1), ("s", 1)), M)

    def test_loops_whose_value_changes_its_unit(self):
        self.unlike("loop x = a for 1 do b", M, S)
        self.unlike("loop x = a for 3 do x * x", M, (("m", 2),))
        self.unlike("loop x = 0 for 2 do if x < 1[m] then a else b", M, S)
        self.assertEqual(self.value("loop x = a for 0 do b"), ((3, 1), M))
        self.assertEqual(self.value("loop x = 0 for 1 do b"), ((5, 1), S))
        self.unlike("loop x = 0 for 2 do if x < 0 then a else (if 0 < x then a else b)", S, M)

    def test_what_is_not_come_to(self):
        self.assertEqual(self.value("if 1 < 2 then 3 else a + b"), ((3, 1), ()))
        self.assertEqual(self.ask(HEAD + "fun f(x) = a + b\nshow 1", TAKEN), ("shown", (((1, 1), ()),)))
        self.assertEqual(self.ask(HEAD + "show 1 / 0\nshow a + b", TAKEN), ("refused", 4, "nought", ()))
        self.assertEqual(self.value("loop x = 1 for 0 do a + b"), ((1, 1), ()))

    def test_in_whichever_row(self):
        self.assertEqual(self.ask(HEAD + "let c = a + b", TAKEN), ("unlike", M, S))
        self.assertEqual(self.ask(HEAD + "show 1\nfun f(x) = x + b\nshow f(a)", TAKEN), ("unlike", M, S))

    def test_ahead_of_great(self):
        most = 5 * 10 ** 199
        taken = {"a": (most, 1), "b": (most, 1)}
        self.assertEqual(self.ask(HEAD + "show a + b", taken), ("unlike", M, S))
        self.assertEqual(self.ask(HEAD + "show a + a", taken), ("refused", 4, "great", ()))
        self.assertEqual(self.ask(HEAD + "show a + a + b", taken), ("refused", 4, "great", ()))
        self.assertEqual(self.ask(HEAD + "show loop x = a for 1 do x * b", taken), ("refused", 4, "great", ()))

    def test_behind_dry(self):
        one = ("number", (1, 1), ())
        rows = read("unit m\nunit s\nshow loop x = 1 for 12 do loop x = 1 for 12 do loop x = 1 for 12 do x"
                    + "\nshow loop x = 1 for 12 do loop x = 1 for 12 do x" * 5)
        rows += (("show", drawn.broad(40, one)), ("show", drawn.broad(40, one)))
        sum_ = read("unit m\nunit s\nshow 1[m] + 1[s]")[2:]
        self.assertEqual(self.ask(rows + (("show", drawn.broad(25, one)),) + sum_), ("unlike", M, S))
        self.assertEqual(self.ask(rows + (("show", drawn.broad(26, one)),) + sum_)[:3], ("refused", 11, "dry"))


class Refused(Case):
    def refuse(self, program, taken, kind):
        with self.assertRaises(kind) as refusal:
            run_marked(program, taken)
        return refusal.exception

    def test_as_run(self):
        for thing in no_numbers_no_texts() + [1, (), (("show",),)]:
            self.assertIsNone(self.refuse(thing, {}, BadText).at)
        self.assertEqual(vars(self.refuse(read("take a []\nshow q"), {}, NoName)), {"row": 1, "name": "q"})
        program = read("unit m\ntake b [m]\ntake a []\nshow a + b")
        self.assertEqual(vars(self.refuse(program, {"a": (1, 1)}, NoName)), {"row": None, "name": "b"})
        self.assertEqual(vars(self.refuse(program, {"b": (1, 1)}, NoName)), {"row": None, "name": "a"})
        for thing in no_numbers_no_texts() + [1, "1", (2, 4), [1, 1], ((1, 1), ())]:
            self.refuse(program, {"b": thing}, BadNumber)
            self.refuse(program, {"b": (1, 1), "a": thing}, BadNumber)
        self.refuse(program, {"a": (1, 1), "b": (1, 1)}, Unlike)

    def test_further_keys(self):
        self.assertEqual(self.ask("take a []\nshow a", {"a": (1, 1), 5: None, "q": [1], (): {}}),
                         ("shown", (((1, 1), ()),)))

    def test_inner_classes(self):
        self.assertTrue(issubclass(Marked, Reckoner))


class Drawn(Case):
    def test_what_is_let_by_never_meets_unlike_units(self):
        source = random.Random(101)
        shown = 0
        for turn in range(400):
            program = sound.program(source)[0]
            told = self.ask(program, reckoned.drawn_taken(source, program))
            self.assertNotEqual(told[0], "unlike")
            shown += told[0] == "shown"
        self.assertGreater(shown, 50)

    def test_programs_whose_units_do_not_fit(self):
        source = random.Random(102)
        seen = {"shown": 0, "refused": 0, "unlike": 0}
        for turn in range(300):
            program = sound.program(source)[0]
            names = [row[1] for row in program if row[0] == "unit"]
            if names:
                wrong = tuple((row[0], row[1], ((names[0], 1),)) if row[0] == "take" else row for row in program)
                seen[self.ask(wrong, reckoned.drawn_taken(source, wrong))[0]] += 1
        self.assertGreater(min(seen.values()), 15, seen)


class Kept(Case):
    def test_what_is_handed_in_changed_behind(self):
        taken = {"a": (1, 2)}
        program = read("take a []\nshow a")
        told = run_marked(program, taken)
        taken["a"] = (5, 1)
        self.assertEqual(told, ("shown", (((1, 2), ()),)))
        self.assertEqual(run_marked(program, taken), ("shown", (((5, 1), ()),)))

    def test_a_refusal_changes_no_later_answer(self):
        self.unlike("a + b", M, S)
        self.assertEqual(self.value("a + a"), ((6, 1), M))


if __name__ == "__main__":
    unittest.main()
