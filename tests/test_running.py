"""[R1], [R2], [R3], [R4] runs, and [A2] of them: measurewise.running and measurewise.reckoning."""

import copy
import random
import unittest

import drawn
import reckoned
import sound
from measurewise.errors import BadCount, BadNumber, BadText, Clash, NoName, Twice
from measurewise.kinds import kinds_of
from measurewise.reading import read
from measurewise.reckoning import Plain, Reckoner
from measurewise.running import run
from samples import no_numbers_no_texts

ONE = ("number", (1, 1), ())
GREAT = 10 ** 200


def number(above, below=1):
    return ("number", (above, below), ())


def ring(depth):
    """A loop in a loop and so on, so deep: 14 nodes, 170, 2042."""
    return "x" if depth == 0 else f"loop x = 1 for 12 do {ring(depth - 1)}"


def just_3000():
    """Rows that come to just 3000 nodes."""
    rows = read("\n".join(["show " + ring(3)] + ["show " + ring(2)] * 5))
    return rows + tuple(("show", drawn.broad(nodes, ONE)) for nodes in (40, 40, 28))


class Case(unittest.TestCase):
    def ask(self, program, taken=None):
        """The outcome of a program, told or as a text."""
        program = read(program) if isinstance(program, str) else program
        taken = {} if taken is None else taken
        before = copy.deepcopy((program, taken))
        told = run(program, taken)
        self.assertEqual(run(program, taken), told)
        self.assertEqual((program, taken), before)
        self.assertEqual((told.__class__, told[-1].__class__), (tuple, tuple))
        self.assertEqual(told, reckoned.outcome(program, taken))
        return told

    def shown(self, program, *answers, taken=None):
        answers = tuple((answer, 1) if isinstance(answer, int) else answer for answer in answers)
        self.assertEqual(self.ask(program, taken), ("shown", answers))

    def refused(self, program, row, word, *answers, taken=None):
        answers = tuple((answer, 1) if isinstance(answer, int) else answer for answer in answers)
        self.assertEqual(self.ask(program, taken), ("refused", row, word, answers))


class Reckoned(Case):
    def test_rows_of_all_sorts(self):
        self.shown("unit m")
        self.shown("take a []", taken={"a": (1, 2)})
        self.shown("let a = 3")
        self.shown("fun f(a) = a")
        self.shown("show 3", 3)
        self.shown("unit m\ntake a [m]\nlet b = a * a\nfun f(x) = x + b\nshow f(2[m^2])\nshow a\nshow b",
                   11, 3, 9, taken={"a": (3, 1)})

    def test_numbers(self):
        self.shown("unit m\nshow 3:4\nshow 3:4[m]\nshow 0\nshow 0[m]\nshow 0[]\nshow 999999999:999999998",
                   (3, 4), (3, 4), 0, 0, 0, (999999999, 999999998))

    def test_signs(self):
        self.shown("show 1:2 + 1:3\nshow 1:2 - 1:3\nshow 1:2 * 2:3\nshow 1:2 / 3\nshow -5\nshow --5\nshow -0",
                   (5, 6), (1, 6), (1, 3), (1, 6), -5, 5, 0)
        self.shown("show 1 - 2 - 3\nshow 8 / 4 / 2\nshow 1 - (2 - 3)\nshow 3 / -2\nshow -3 / -2",
                   -4, 1, 2, (-3, 2), (3, 2))

    def test_units_are_not_looked_at(self):
        self.shown("unit m\nshow 1[m] + 2\nshow if 1[m] < 2 then 3 else 4[m]\nshow loop x = 1 for 2 do x * 1[m]",
                   3, 3, 1)

    def test_powers(self):
        self.shown("show 2^5\nshow 2^-3\nshow (-2)^3\nshow -2^2\nshow (-2)^-3\nshow 3:4^2\nshow 3:4^-2",
                   32, (1, 8), -8, -4, (-1, 8), (9, 16), (16, 9))
        self.shown("show 5^0\nshow 0^0\nshow 0[]^0\nshow (-5)^0\nshow 0^3\nshow 7^1\nshow 7^-1",
                   1, 1, 1, 1, 0, 7, (1, 7))

    def test_choices(self):
        self.shown("show if 1 < 2 then 3 else 4\nshow if 2 < 1 then 3 else 4\nshow if 2 < 2 then 3 else 4", 3, 4, 4)
        self.shown("show if -1:2 < -1:3 then 3 else 4\nshow if 2:3 < 5:8 then 3 else 4", 3, 4)

    def test_an_if_reckons_one_of_two_only(self):
        self.shown("show if 1 < 2 then 3 else 1 / 0\nshow if 2 < 1 then 0^-1 else 4", 3, 4)
        self.refused("show if 1 / 0 < 2 then 3 else 4", 0, "nought")
        self.refused("show if 1 < 1 / 0 then 3 else 4", 0, "nought")
        self.refused("show if 1 < 2 then 1 / 0 else 4", 0, "nought")
        self.refused("show if 2 < 1 then 3 else 1 / 0", 0, "nought")
        costly = f"show if 1 < 2 then 3 else ({ring(3)}) + ({ring(3)})\n"
        self.shown(costly * 3 + "show 1", 3, 3, 3, 1)

    def test_loops(self):
        self.shown("show loop x = 1 for 0 do x * 2\nshow loop x = 1 for 12 do x * 2\nshow loop x = 1 for 1 do 5",
                   1, 4096, 5)
        self.shown("show loop x = 7 for 0 do 1 / 0", 7)
        self.shown("show loop x = 1 for 3 do loop y = x for 2 do x + y", 27)
        self.shown("show (loop x = 1 for 2 do x + 1) * (loop x = 5 for 1 do x + 1)", 18)
        self.refused("show loop x = 2 for 3 do x / (x - 1) - 1", 0, "nought")

    def test_loops_names_hide_others(self):
        self.shown("let a = 5\nshow (loop a = a + 1 for 2 do a * 2) + a", 29)
        self.shown("take x []\nfun f(x) = (loop x = x for 1 do x + 1) * x\nshow f(3)\nshow x", 12, 9,
                   taken={"x": (9, 1)})
        self.shown("fun f(x) = x\nshow loop f = f(2) for 2 do f * f", 16)
        self.shown("show loop x = 1 for 2 do x + (loop x = 10 for 1 do x * 2) + x", 64)

    def test_params_hide_names_of_rows(self):
        self.shown("let a = 5\nlet b = 7\nfun f(a) = a * b\nshow f(2)\nshow f(b)\nshow a", 14, 49, 5)
        self.shown("fun f(f) = f + 1\nshow f(f(1))", 3)
        self.shown("unit m\nfun f(m) = m * 2[m]\nshow f(4)", 8)

    def test_functions_use_names_of_rows_and_not_those_around_their_calls(self):
        self.shown("let a = 5\nfun f(x) = x + a\nfun g(a) = f(a) * a\nshow g(1)", 6)
        self.shown("let a = 5\nfun f(x) = x + a\nshow loop a = 1 for 3 do f(a)", 16)
        self.shown("let x = 5\nfun f(y) = x * y\nfun g(x, y) = f(y) + x\nshow g(1, 10)", 51)

    def test_functions_of_one_two_and_three(self):
        self.shown("fun f(a) = a + 1\nfun g(a, b) = a / b\nfun h(a, b, c) = a - b * c\n"
                   "show f(1)\nshow g(1, 2)\nshow h(1, 2, 3)\nshow h(f(1), g(4, 2), f(f(2)))", 2, (1, 2), -5, -6)

    def test_arguments_are_reckoned_once_and_ahead_of_the_body(self):
        self.refused("fun f(a) = 1 / 0\nfun g(a) = 5\nshow g(1 / 0)", 2, "nought")
        self.refused(f"fun g(a) = 5\nshow g({ring(3)}) + g({ring(2)}) + g({ring(3)})", 1, "dry")
        once = f"fun f(a) = a + a + a + a + a + a + a + a\nshow f({ring(3)})\nshow f(3)"
        self.shown(once, 8, 24)


class Taken(Case):
    def test_numbers_by_their_takes(self):
        self.shown("take a []\ntake b []\nshow a - b", (1, 6), taken={"b": (1, 3), "a": (1, 2)})
        self.shown("take a []\nshow a", -5, taken={"a": (-5, 1)})

    def test_what_else_is_in_it_is_let_be(self):
        other = {"a": (1, 1), "b": None, "zz": [1], "A": (2, 4), 5: 5, None: None, ("a",): {}, True: True, 1.5: "x",
                 "": (1, 0), "unit": object, frozenset(): set()}
        self.shown("take a []\nshow a", 1, taken=other)
        self.shown("let b = 3\nshow b", 3, taken={"b": "no number"})
        self.shown("unit b\nfun f(a) = a\nshow f(2)", 2, taken={"b": None, "a": None, "f": None})

    def refuse(self, text, taken, kind):
        program = read(text) if isinstance(text, str) else text
        with self.assertRaises(kind) as refusal:
            run(program, taken)
        return refusal.exception

    def test_a_name_that_lacks(self):
        for taken in ({}, {"b": (1, 1)}, {"A": (1, 1)}, {5: (1, 1)}, {("a",): (1, 1)}):
            self.assertEqual(vars(self.refuse("take a []\nshow 1", taken, NoName)), {"row": None, "name": "a"})
        refusal = self.refuse("unit m\ntake b [m]\nshow 1\ntake a [m]", {"b": (1, 1)}, NoName)
        self.assertEqual((refusal.row, refusal.name), (None, "a"))

    def test_a_number_that_is_no_fraction(self):
        wrong = no_numbers_no_texts() + ["", "1", "1:2", 1, 0, (2, 4), (0, 2), (1, 0), (1, -1), (1, True), (True, 1),
                                         [1, 1], (1,), (1, 1, 1), (1.0, 1), ("1", "1")]
        for thing in wrong:
            self.refuse("take a []\nshow 1", {"a": thing}, BadNumber)
            self.refuse("take b []\ntake a []", {"a": thing, "b": (1, 1)}, BadNumber)

    def test_take_by_take(self):
        three = "take c []\nshow 1\ntake a []\ntake b []"
        self.assertEqual(self.refuse(three, {}, NoName).name, "c")
        self.assertEqual(self.refuse(three, {"c": (1, 1), "b": 1}, NoName).name, "a")
        self.refuse(three, {"c": 1}, BadNumber)
        self.refuse(three, {"c": (1, 1), "a": 5}, BadNumber)
        self.assertEqual(self.refuse(three, {"a": 5, "b": 5}, NoName).name, "c")

    def test_the_program_ahead_of_all_else(self):
        for thing in no_numbers_no_texts() + [1, (), ("show", ONE), (("show",),)]:
            self.assertIsNone(self.refuse(thing, {}, BadText).at)
        self.assertEqual(vars(self.refuse("take a []\nshow q", {}, NoName)), {"row": 1, "name": "q"})
        self.assertEqual(vars(self.refuse("take a []\ntake a []", {"a": 1}, Twice)), {"row": 1, "name": "a"})
        self.assertEqual(vars(self.refuse("take a []\nfun f(x) = x\nshow f(1, 2)", {"a": 1}, BadCount)),
                         {"row": 2, "name": "f"})

    def test_kinds_are_not_asked_for(self):
        clashing = "unit m\ntake a [m]\nshow a + 1"
        with self.assertRaises(Clash):
            kinds_of(read(clashing))
        self.shown(clashing, 3, taken={"a": (2, 1)})


class Nought(Case):
    def test_divisions(self):
        self.refused("show 1 / 0", 0, "nought")
        self.refused("show 0 / 0", 0, "nought")
        self.refused("unit m\nshow 1\nshow 1 / 0[m]\nshow 2", 2, "nought", 1)
        self.refused("take a []\nshow 7\nshow 1 / (a - 1)", 2, "nought", 7, taken={"a": (1, 1)})

    def test_powers(self):
        self.refused("show 0^-1", 0, "nought")
        self.refused("show 1\nlet a = (1 - 1)^-5\nshow 2", 1, "nought", 1)
        self.shown("show 0^0\nshow (1 - 1)^5", 1, 0)

    def test_the_row_that_calls(self):
        self.refused("fun f(a) = 1 / a\nshow 5\nshow f(0)", 2, "nought", 5)
        self.refused("fun f(a) = 1 / a\nfun g(a) = f(a) + 1\nshow g(1)\nlet b = g(0)\nshow 9", 3, "nought", 2)
        self.shown("fun f(a) = 1 / 0\nshow 5", 5)

    def test_the_first_from_the_left(self):
        great = " * ".join(["(999999999 * 999999999)^5"] * 3)
        self.refused("show 1 / 0 + " + great, 0, "nought")
        self.refused("show " + great + " + 1 / 0", 0, "great")


class Great(Case):
    def test_just_so_great(self):
        for most in ("above", "below"):
            for size, let_by in ((GREAT - 1, True), (GREAT, False), (GREAT + 1, False), (GREAT * GREAT, False)):
                told = (size, 1) if most == "above" else (1, size)
                for program in ((("show", ("number", told, ())),), (("show", ("negative", ("number", told, ()))),)):
                    answer = self.ask(program)
                    self.assertEqual(answer[0], "shown" if let_by else "refused")
                    if not let_by:
                        self.assertEqual(answer, ("refused", 0, "great", ()))
        self.refused((("show", ("number", (GREAT, GREAT + 1), ())),), 0, "great")
        self.shown((("show", ("number", (GREAT - 1, GREAT - 2), ())),), (GREAT - 1, GREAT - 2))

    def test_of_numbers_in_the_texts_bounds(self):
        ten = "let a = 100000^5\nlet b = a^4\nlet c = b * b\n"
        self.refused(ten + "show 1", 2, "great")
        ten = "let a = 100000^5\nlet b = a^4\nlet c = b * (a / 10)^4\n"
        self.refused(ten + "show c\nshow c * 1000\nshow c * 10000\nshow 1", 5, "great", 10 ** 196, 10 ** 199)
        self.refused(ten + "show 1 / c\nshow 1 / c / 10000", 4, "great", (1, 10 ** 196))
        self.shown(ten + "show c * (10000 / 10)", 10 ** 199)
        self.refused(ten + "show c * 10000 / 10", 3, "great")
        self.refused(ten + "show -c * 10000", 3, "great")
        self.refused(ten + "show c * 9999 + c", 3, "great")
        self.refused(ten + "show c^5 * 0", 3, "great")
        self.refused(ten + "show c^-2", 3, "great")
        self.refused(ten + "show if c * c < 1 then 2 else 3", 3, "great")
        self.refused(ten + "fun f(x) = x * x\nshow 2\nshow f(c)", 5, "great", 2)
        self.refused(ten + "show loop x = 10 for 12 do x * x", 3, "great")
        self.shown("show loop x = 10 for 7 do x * x", 10 ** 128)

    def test_numbers_taken_where_their_names_are_come_to(self):
        taken = {"a": (GREAT, 1), "b": (1, GREAT), "c": (-GREAT, 3), "d": (GREAT - 1, 1)}
        takes = "take a []\ntake b []\ntake c []\ntake d []\n"
        self.shown(takes + "show 1\nshow d", 1, GREAT - 1, taken=taken)
        for name in "abc":
            self.refused(takes + f"show 1\nshow {name}", 5, "great", 1, taken=taken)
            self.refused(takes + f"fun f(x) = 0 * {name}\nshow 1\nshow f(2)", 6, "great", 1, taken=taken)
            self.shown(takes + f"show if 1 < 2 then 3 else {name}", 3, taken=taken)
        self.refused("take a []\nshow 1 / 0\nshow a", 1, "nought", taken=taken)


class Dry(Case):
    def test_at_the_3001st_node_and_not_at_the_3000th(self):
        program = just_3000()
        told = self.ask(program)
        self.assertEqual((told[0], len(told[1])), ("shown", 9))
        told = self.ask(program + (("show", ONE),))
        self.assertEqual((told[:3], len(told[3])), (("refused", 9, "dry"), 9))
        more = program[:-1] + (("show", ("negative", program[-1][1])),)
        self.assertEqual(self.ask(more)[:3], ("refused", 8, "dry"))
        self.assertEqual(len(self.ask(more)[3]), 8)

    def test_what_counts_no_node(self):
        rows = read("unit m\ntake a [m]\nfun f(x) = x") + just_3000()
        self.assertEqual(self.ask(rows, {"a": (1, 1)})[0], "shown")

    def test_each_node_each_time(self):
        """Of each form just so many nodes are left as are asked for, or one too few."""
        for text, count in (("5", 1), ("-5", 2), ("5 + 5", 3), ("5^3", 2), ("if 1 < 2 then 3 else 4 + 5", 4),
                            ("if 2 < 1 then 3 else 4 + 5", 6), ("loop x = 1 for 0 do x", 2),
                            ("loop x = 1 for 3 do x + 1", 11), ("f(1)", 5), ("f(f(1))", 9), ("a", 1), ("a + a", 3),
                            ("loop x = 1 for 2 do f(x)", 12)):
            head = read("let a = 1\nfun f(x) = x + a\nshow " + ring(3) + ("\nshow " + ring(2)) * 5)
            rest = 3000 - 1 - 2042 - 850 - count
            for over in (0, 1):
                parts = [40, 40, rest - 80 + over]
                rows = head + tuple(("show", drawn.broad(nodes, ONE)) for nodes in parts)
                rows = rows + read("let a = 1\nfun f(x) = x + a\nshow " + text)[2:]
                with self.subTest(text=text, over=over):
                    self.assertEqual(self.ask(rows)[0], ("shown", "refused")[over])

    def test_ahead_of_all_else_at_a_node(self):
        program = just_3000()
        for told in (number(GREAT), ("over", ONE, ("number", (0, 1), None)), ("power", ("number", (0, 1), ()), -1)):
            self.assertEqual(self.ask(program + (("show", told),))[:3], ("refused", 9, "dry"))
        self.assertEqual(self.ask(program[:-1] + (("show", drawn.broad(27, ONE)), ("show", number(GREAT))))[:3],
                         ("refused", 9, "great"))
        shorter = program[:-1] + (("show", drawn.broad(25, ONE)),)
        self.assertEqual(self.ask(shorter + (("show", ("over", ONE, ("number", (0, 1), ()))),))[2], "nought")
        # The 3001st node is come to ahead of the division that it stands in.
        longer = program[:-1] + (("show", drawn.broad(26, ONE)),)
        self.assertEqual(self.ask(longer + (("show", ("over", ONE, ("number", (0, 1), ()))),))[2], "dry")

    def test_the_row_that_calls(self):
        text = "fun f(x) = " + ring(3) + "\nshow 1\nshow f(1)\nshow f(2)"
        self.refused(text, 3, "dry", 1, 1)


class Deep(Case):
    def test_as_many_within_one_another_as_can_be(self):
        rows = ["fun a(x) = --------x"]
        for place in range(1, 15):
            rows.append(f"fun {'abcdefghijklmno'[place]}(x) = --------{'abcdefghijklmno'[place - 1]}(x)")
        self.shown("\n".join(rows) + "\nshow --------o(3)", 3)
        wrap = "loop y = 1 for 1 do " * 8
        rows = [f"fun a(x) = {wrap}x"]
        for place in range(1, 15):
            rows.append(f"fun {'abcdefghijklmno'[place]}(x) = {wrap}{'abcdefghijklmno'[place - 1]}(x)")
        self.shown("\n".join(rows) + f"\nshow {wrap}o(3)", 3)


class Drawn(Case):
    def test_against_another_way(self):
        source = random.Random(91)
        words = {}
        for turn in range(400):
            program = sound.program(source)[0]
            told = self.ask(program, reckoned.drawn_taken(source, program))
            word = told[2] if told[0] == "refused" else "shown"
            words[word] = words.get(word, 0) + 1
        self.assertGreater(min(words.get(word, 0) for word in ("shown", "nought")), 20, words)


class Kept(Case):
    def test_what_is_handed_in_changed_behind(self):
        taken = {"a": (1, 2), "b": [1]}
        program = read("take a []\nshow a\nshow a + 1")
        told = run(program, taken)
        taken["a"] = (5, 1)
        taken["c"] = 1
        self.assertEqual(told, ("shown", ((1, 2), (3, 2))))
        self.assertEqual(run(program, taken), ("shown", ((5, 1), (6, 1))))

    def test_a_refusal_changes_no_later_answer(self):
        with self.assertRaises(NoName):
            run(read("take a []\nshow a"), {})
        self.refused("show 1 / 0", 0, "nought")
        self.shown("take a []\nshow a", 2, taken={"a": (2, 1)})

    def test_inner_classes(self):
        self.assertTrue(issubclass(Plain, Reckoner))


if __name__ == "__main__":
    unittest.main()
