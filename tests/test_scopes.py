"""[P2] the form of programs, [P7] what their names stand for, and [A2] what is refused first: measurewise.scopes."""

import copy
import random
import unittest

import drawn
from measurewise.errors import BadCount, BadText, NoName, Twice
from measurewise.reading import read
from measurewise.scopes import need_program
from samples import Sullen, nested, no_numbers_no_texts

A = ("name", "a")
ONE = ("number", (1, 1), ())
METRE = (("m", 1),)
SHOW = ("show", ONE)


def chain(depth):
    return drawn.chain(depth, ONE)


def broad(nodes):
    return drawn.broad(nodes, ONE)


class Case(unittest.TestCase):
    def let_by(self, program):
        program = read(program) if isinstance(program, str) else program
        before = copy.deepcopy(program)
        self.assertIsNone(need_program(program))
        self.assertEqual(program, before)

    def refuse(self, program, kind, row, name):
        """Refused is a program, told or as a text, with just this."""
        told = read(program) if isinstance(program, str) else program
        before = copy.deepcopy(told)
        with self.subTest(program=program):
            with self.assertRaises(kind) as refusal:
                need_program(told)
            self.assertEqual((refusal.exception.row, refusal.exception.name), (row, name))
            self.assertEqual(told, before)

    def refuse_form(self, program):
        with self.assertRaises(BadText) as refusal:
            need_program(program)
        self.assertIsNone(refusal.exception.at)


class LetBy(Case):
    def test_each_sort_of_row_by_itself(self):
        for text in ("unit m", "take a []", "let a = 1", "fun f(a) = a", "show 1", "show 0", "let a = 0[]",
                     "fun f(a, b, c) = a * b - c", "show loop x = 1 for 0 do x", "show if 1 < 2 then 3 else 0:1"):
            self.let_by(text)

    def test_all_sorts_together(self):
        self.let_by("unit m\nunit s\ntake g [m s^-2]\nlet h = g * 3[s^2]\nfun f(a, b) = a * b + h\n"
                    "fun k(a) = f(a, g) / 2\nshow k(loop x = 1[m] for 3 do x + h) - f(h, 1[m^-1])\nshow 0")

    def test_one_row_and_sixteen_and_six_units(self):
        self.let_by((SHOW,))
        self.let_by((SHOW,) * 16)
        self.let_by("\n".join("unit " + name for name in "abcdef") + "\nshow 1[a b c d e f]")
        self.let_by("\n".join("unit " + name for name in "abcdef"))

    def test_the_largest_and_the_deepest(self):
        for told in (broad(40), chain(10)):
            self.let_by((("show", told), ("let", "a", told), ("fun", "f", ("a", "b", "c"), told)))
        self.let_by((("unit", "m"), ("unit", "s"), ("take", "a", (("m", 9), ("s", -9))), ("take", "abcdefgh", ())))

    def test_params_hide_other_names(self):
        self.let_by("unit m\nfun f(m) = m")
        self.let_by("take a []\nfun f(a) = a")
        self.let_by("fun f(a) = a\nfun g(f) = f + 1")
        self.let_by("fun f(f) = f")
        self.let_by("fun f(a) = a\nfun g(a) = a\nshow f(g(1))")

    def test_loops_names_hide_other_names(self):
        self.let_by("unit m\nshow loop m = 1 for 2 do m + m")
        self.let_by("fun f(a) = loop a = a for 2 do a")
        self.let_by("fun f(a) = a\nshow loop f = f(1) for 2 do f")
        self.let_by("show loop x = 1 for 2 do loop x = x for 2 do x")
        self.let_by("let a = 1\nshow loop x = a for 2 do (loop a = x for 1 do a) + a")

    def test_but_in_units_they_do_not(self):
        self.let_by("unit m\nfun f(m) = m * 3[m]")
        self.let_by("unit m\nshow loop m = 1[m] for 2 do m + 1[m]")

    def test_what_is_let_by_is_told_nothing_of(self):
        source = random.Random(31)
        for turn in range(50):
            rows = [("unit", "kg"), ("unit", "m"), ("unit", "s")]
            self.assertIsNone(need_program(tuple(rows + [("show", drawn.number(source))])))


class Form(Case):
    WRONG_EXPRESSIONS = (None, "a", 1, (), ("a",), ("name",), ("name", "A"), ("plus", ONE), ["name", "a"], broad(41),
                         chain(11), ("number", (1, 1), (("m", 10),)), ("number", (1, 1), None),
                         ("number", (2, 4), ()), ("power", ONE, 6), ("power", ONE, True), ("loop", "x", ONE, 13, ONE),
                         ("call", "f", ()), ("call", "f", [ONE]), ("call", "f", (ONE,) * 4),
                         ("negative", ["number", (1, 1), ()]), Sullen())
    WRONG_NAMES = (None, 1, "", "A", "a1", "unit", "abcdefghi", ("a",), ["a"], True, A, Sullen())
    WRONG_UNITS = (None, "m", "", 1, [], [("m", 1)], (["m", 1],), ("m", 1), (("m", 0),), (("m", 10),), (("m", -10),),
                   (("m", True),), (("s", 1), ("m", 1)), (("m", 1), ("m", 1)), (("M", 1),), Sullen())
    WRONG_PARAMS = (None, "a", "abc", (), ("a", "b", "c", "d"), ["a"], ("A",), ("a", None), ("a", "unit"), ("a", 1),
                    {"a": 1}, (("a",),), ("a", ""), Sullen())

    def refuse_row(self, row):
        for program in ((row,), (SHOW, row), (row, SHOW), [row]):
            self.refuse_form(program)

    def test_what_is_no_tuple_of_rows(self):
        self.refuse_form(SHOW)
        others = ["", "show 1", 0, 1, [SHOW], {0: SHOW}, (SHOW, []), ((SHOW,),), nested(100)]
        for thing in no_numbers_no_texts() + others:
            self.refuse_form(thing)
            self.refuse_form((thing,))
            self.refuse_form((SHOW, thing))

    def test_counts_of_rows_and_units(self):
        self.refuse_form(())
        self.refuse_form((SHOW,) * 17)
        self.refuse_form(tuple(("unit", name) for name in "abcdefg"))
        self.refuse_form((SHOW,) + tuple(("unit", name) for name in "abcdefg") + (SHOW,))
        self.refuse_form((("unit", "m"),) * 7)

    def test_unknown_words(self):
        for word in ("Unit", "units", "", "row", "if", "name", "number", None, 1, True, ("unit",), ["unit"], Sullen()):
            self.refuse_row((word, "a"))
            self.refuse_row((word, ONE))
            self.refuse_row((word, "a", ONE))

    def test_rows_too_short_or_too_long(self):
        for row in (("unit",), ("unit", "m", "s"), ("unit", "m", ()), ("take",), ("take", "a"), ("take", "a", (), ()),
                    ("let",), ("let", "a"), ("let", ONE), ("let", "a", ONE, ONE), ("fun",), ("fun", "f"),
                    ("fun", "f", ("a",)), ("fun", "f", A), ("fun", "f", ("a",), A, A), ("show",), ("show", ONE, ONE),
                    ("show", "a", ONE), ()):
            self.refuse_row(row)

    def test_lists_in_place_of_tuples(self):
        for row in (["unit", "m"], ["take", "a", ()], ["let", "a", ONE], ["fun", "f", ("a",), ONE], ["show", ONE],
                    ("take", "a", []), ("fun", "f", ["a"], ONE), ("show", list(ONE)), ("let", "a", list(ONE))):
            self.refuse_row(row)

    def test_names_that_are_none(self):
        for name in self.WRONG_NAMES:
            self.refuse_row(("unit", name))
            self.refuse_row(("take", name, ()))
            self.refuse_row(("let", name, ONE))
            self.refuse_row(("fun", name, ("a",), ONE))
            self.refuse_row(("fun", "f", (name,), ONE))
            self.refuse_row(("fun", "f", ("a", "b", name), ONE))

    def test_params_that_are_none(self):
        for params in self.WRONG_PARAMS:
            self.refuse_row(("fun", "f", params, ONE))

    def test_units_that_are_none(self):
        for unit in self.WRONG_UNITS:
            self.refuse_row(("take", "a", unit))
            if unit is not None:
                self.refuse_row(("show", ("number", (0, 1), unit)))

    def test_expressions_that_are_none(self):
        for told in self.WRONG_EXPRESSIONS:
            self.refuse_row(("show", told))
            self.refuse_row(("let", "a", told))
            self.refuse_row(("fun", "f", ("a",), told))

    def test_ahead_of_all_that_is_wrong_with_names(self):
        wrong = (("unit", "m"), ("unit", "m"), ("show", A), ("take", "a", METRE), ("let", "a", ("call", "q", (A, A))))
        self.refuse(wrong, Twice, 1, "m")
        for last in (("show", broad(41)), ("take", "b", (("m", 10),)), ("unit", "unit"), None, ("show",), list(SHOW)):
            self.refuse_form(wrong + (last,))
        self.refuse_form((("unit", "m"),) * 7)
        self.refuse_form((("show", A),) * 17)


class Names(Case):
    def test_twice(self):
        firsts = ("unit a", "take a []", "let a = 1", "fun a(b) = b")
        for first in firsts:
            for other in firsts:
                self.refuse(first + "\n" + other, Twice, 1, "a")
                self.refuse("show 1\n" + first + "\nshow 2\nunit b\n" + other, Twice, 4, "a")

    def test_twice_comes_ahead_of_what_stands_behind_the_name(self):
        self.refuse("unit a\ntake a [q]", Twice, 1, "a")
        self.refuse("unit a\nlet a = q", Twice, 1, "a")
        self.refuse("unit a\nfun a(b, b) = q", Twice, 1, "a")

    def test_params_twice(self):
        self.refuse("fun f(a, a) = 1", Twice, 0, "a")
        self.refuse("fun f(a, b, a) = 1", Twice, 0, "a")
        self.refuse("fun f(a, b, b) = 1", Twice, 0, "b")
        self.refuse("unit m\nfun f(a, a) = q", Twice, 1, "a")

    def test_names_in_units(self):
        for text in ("take a [m]", "let a = 1[m]", "fun f(a) = 1[m]", "show 0[m]", "show 1[m]", "fun f(m) = 1[m]",
                     "show loop m = 1 for 2 do m * 1[m]", "show 1[m]^0", "show loop x = 1 for 0 do 1[m]"):
            self.refuse(text, NoName, 0, "m")
        for first in ("take m []", "let m = 1", "fun m(a) = a"):
            self.refuse(first + "\nshow 1[m]", NoName, 1, "m")
            self.refuse(first + "\ntake a [m]", NoName, 1, "m")
        self.refuse("unit m\nshow 1[m s]", NoName, 1, "s")
        self.refuse("unit m\nshow 1[a m s]", NoName, 1, "a")
        self.refuse("unit m\ntake m [q]", Twice, 1, "m")
        self.refuse("take m [m]", NoName, 0, "m")

    def test_names_in_units_from_the_left(self):
        self.refuse("unit m\ntake a [s m q]", NoName, 1, "q")
        self.refuse("unit s\ntake a [s^2 m q^-1]", NoName, 1, "m")

    def test_names_for_values(self):
        self.refuse("show a", NoName, 0, "a")
        self.refuse("unit a\nshow a", NoName, 1, "a")
        self.refuse("fun a(b) = b\nshow a", NoName, 1, "a")
        self.refuse("fun f(a) = a\nshow a", NoName, 1, "a")
        self.refuse("fun f(a) = a\nfun g(b) = a", NoName, 1, "a")
        self.refuse("show a\ntake a []", NoName, 0, "a")
        self.refuse("show (loop x = 1 for 2 do x) + x", NoName, 0, "x")
        self.refuse("show x + (loop x = 1 for 2 do x)", NoName, 0, "x")

    def test_names_for_calls(self):
        self.refuse("show f(1)", NoName, 0, "f")
        self.refuse("unit f\nshow f(1)", NoName, 1, "f")
        self.refuse("take f []\nshow f(1)", NoName, 1, "f")
        self.refuse("let f = 1\nshow f(1)", NoName, 1, "f")
        self.refuse("fun f(a) = a\nfun g(f) = f(1)", NoName, 1, "f")
        self.refuse("fun f(a) = a\nshow loop f = 1 for 2 do f(1)", NoName, 1, "f")
        self.refuse("show f(1)\nfun f(a) = a", NoName, 0, "f")

    def test_a_rows_own_name(self):
        self.refuse("let a = a", NoName, 0, "a")
        self.refuse("fun f(a) = f(a)", NoName, 0, "f")
        self.refuse("fun f(a) = f", NoName, 0, "f")
        self.refuse("take m [m]", NoName, 0, "m")

    def test_a_loops_name_in_its_start(self):
        self.refuse("show loop x = x for 2 do x", NoName, 0, "x")
        self.refuse("show loop x = 1 + x for 2 do 1", NoName, 0, "x")
        self.refuse("unit x\nshow loop x = x for 2 do x", NoName, 1, "x")
        self.let_by("let x = 1\nshow loop x = x for 2 do x")

    def test_counts_of_arguments(self):
        self.refuse("fun f(a) = a\nshow f(1, 2)", BadCount, 1, "f")
        self.refuse("fun f(a) = a\nshow f(1, 2, 3)", BadCount, 1, "f")
        self.refuse("fun f(a, b) = a\nshow f(1)", BadCount, 1, "f")
        self.refuse("fun f(a, b, c) = a\nshow 1 + f(1, 2)", BadCount, 1, "f")
        self.refuse("unit m\nfun f(a) = a\nlet x = 1\nlet y = f(f(x, x))", BadCount, 3, "f")

    def test_counts_come_ahead_of_the_arguments(self):
        self.refuse("fun f(a) = a\nshow f(q, q)", BadCount, 1, "f")
        self.refuse("fun f(a) = a\nfun g(a, b) = a\nshow g(f(1, 2))", BadCount, 2, "g")
        self.refuse("fun f(a) = a\nshow f(q)", NoName, 1, "q")
        self.refuse("fun f(a) = a\nshow q(f(1, 2))", NoName, 1, "q")

    def test_the_first_in_a_row_from_the_left(self):
        self.refuse("show q + p", NoName, 0, "q")
        self.refuse("fun f(a) = a\nshow q + f(1, 2)", NoName, 1, "q")
        self.refuse("fun f(a) = a\nshow f(1, 2) + q", BadCount, 1, "f")
        self.refuse("fun f(a) = a\nshow if f(1) < 2 then q else f(1, 2)", NoName, 1, "q")
        self.refuse("fun f(a) = a\nshow if f(1) < f(1, 2) then q else p", BadCount, 1, "f")
        self.refuse("show loop x = q for 2 do p", NoName, 0, "q")
        self.refuse("show loop x = 1 for 2 do p + q", NoName, 0, "p")
        self.refuse("show loop x = 1[q] for 2 do p", NoName, 0, "q")
        self.refuse("fun f(a, a) = 1[q]", Twice, 0, "a")
        self.refuse("fun f(a, b, c) = a\nshow f(1, q, p)", NoName, 1, "q")
        self.refuse("show -(1[s m] * q)", NoName, 0, "m")

    def test_the_first_row_by_row(self):
        self.refuse("show q\nunit m\nunit m", NoName, 0, "q")
        self.refuse("unit m\nunit m\nshow q", Twice, 1, "m")
        self.refuse("fun f(a) = a\nshow f(1, 2)\nunit f\nshow q", BadCount, 1, "f")
        self.refuse("unit m\nshow 1\nshow 2\ntake a [m]\nshow a\nshow a + b\nshow c", NoName, 5, "b")

    def test_a_refusal_changes_no_later_answer(self):
        self.refuse("unit m\nshow q", NoName, 1, "q")
        self.refuse("show 1[m]", NoName, 0, "m")
        self.let_by("unit m\nshow 1[m]")
        self.let_by("unit m\nshow 1[m]")


if __name__ == "__main__":
    unittest.main()
