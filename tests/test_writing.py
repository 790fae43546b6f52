"""[P6] how programs and expressions are written: measurewise.writing, and written() of measurewise.trees."""

import random
import unittest

import drawn
from measurewise.errors import BadText
from measurewise.reading import read
from measurewise.trees import node_of
from measurewise.writing import written

A = ("name", "a")
B = ("name", "b")
C = ("name", "c")
D = ("name", "d")
METRE = (("m", 1),)
CHOICE = ("if", A, B, C, D)
LOOP = ("loop", "a", B, 3, C)

ROWS = (
    (("unit", "m"), "unit m"),
    (("take", "g", (("m", 1), ("s", -2))), "take g [m s^-2]"),
    (("take", "g", METRE), "take g [m]"),
    (("take", "g", ()), "take g []"),
    (("let", "x", A), "let x = a"),
    (("fun", "f", ("a",), B), "fun f(a) = b"),
    (("fun", "f", ("a", "b", "c"), ("plus", A, B)), "fun f(a, b, c) = a + b"),
    (("show", A), "show a"),
)

EXPRESSIONS = (
    # numbers, and units only where they must be
    (("number", (5, 1), ()), "5"),
    (("number", (3, 4), ()), "3:4"),
    (("number", (0, 1), None), "0"),
    (("number", (0, 1), ()), "0[]"),
    (("number", (0, 1), METRE), "0[m]"),
    (("number", (3, 4), METRE), "3:4[m]"),
    (("number", (5, 1), (("kg", -9), ("m", 9), ("s", 1))), "5[kg^-9 m^9 s]"),
    # sums and products on either side
    (("plus", A, B), "a + b"),
    (("minus", A, B), "a - b"),
    (("times", A, B), "a * b"),
    (("over", A, B), "a / b"),
    (("plus", ("plus", A, B), C), "a + b + c"),
    (("plus", A, ("plus", B, C)), "a + (b + c)"),
    (("minus", ("minus", A, B), C), "a - b - c"),
    (("minus", A, ("minus", B, C)), "a - (b - c)"),
    (("plus", A, ("minus", B, C)), "a + (b - c)"),
    (("times", ("times", A, B), C), "a * b * c"),
    (("times", A, ("times", B, C)), "a * (b * c)"),
    (("over", ("over", A, B), C), "a / b / c"),
    (("over", A, ("times", B, C)), "a / (b * c)"),
    (("plus", ("times", A, B), ("over", C, D)), "a * b + c / d"),
    (("times", ("plus", A, B), ("minus", C, D)), "(a + b) * (c - d)"),
    (("minus", ("times", A, B), ("times", C, D)), "a * b - c * d"),
    # a minus ahead
    (("negative", A), "-a"),
    (("negative", ("negative", A)), "--a"),
    (("negative", ("number", (3, 4), METRE)), "-3:4[m]"),
    (("negative", ("plus", A, B)), "-(a + b)"),
    (("negative", ("times", A, B)), "-(a * b)"),
    (("plus", ("negative", A), B), "-a + b"),
    (("plus", A, ("negative", B)), "a + -b"),
    (("minus", A, ("negative", B)), "a - -b"),
    (("times", ("negative", A), B), "-a * b"),
    (("over", A, ("negative", ("negative", B))), "a / --b"),
    (("negative", ("power", A, 2)), "-a^2"),
    (("negative", ("call", "f", (A,))), "-f(a)"),
    (("negative", CHOICE), "-(if a < b then c else d)"),
    # powers
    (("power", A, 2), "a^2"),
    (("power", A, -5), "a^-5"),
    (("power", A, 0), "a^0"),
    (("power", A, 1), "a^1"),
    (("power", ("number", (3, 4), METRE), 2), "3:4[m]^2"),
    (("power", ("number", (0, 1), ()), 2), "0[]^2"),
    (("power", ("call", "f", (A,)), 2), "f(a)^2"),
    (("power", ("power", A, 2), 3), "(a^2)^3"),
    (("power", ("power", ("power", A, 2), -1), 3), "((a^2)^-1)^3"),
    (("power", ("negative", A), 2), "(-a)^2"),
    (("power", ("times", A, B), 2), "(a * b)^2"),
    (("power", ("plus", A, B), -2), "(a + b)^-2"),
    (("power", LOOP, -2), "(loop a = b for 3 do c)^-2"),
    (("times", ("power", A, 2), ("power", B, 3)), "a^2 * b^3"),
    # calls
    (("call", "f", (A,)), "f(a)"),
    (("call", "f", (A, B, C)), "f(a, b, c)"),
    (("call", "f", (("plus", A, B), ("negative", C))), "f(a + b, -c)"),
    (("call", "f", (CHOICE, LOOP)), "f(if a < b then c else d, loop a = b for 3 do c)"),
    (("call", "f", (("call", "g", (A,)),)), "f(g(a))"),
    # ifs and loops within others
    (CHOICE, "if a < b then c else d"),
    (LOOP, "loop a = b for 3 do c"),
    (("if", ("plus", A, B), C, ("times", A, B), ("negative", D)), "if a + b < c then a * b else -d"),
    (("if", CHOICE, B, C, D), "if if a < b then c else d < b then c else d"),
    (("if", A, CHOICE, C, D), "if a < if a < b then c else d then c else d"),
    (("if", A, B, CHOICE, D), "if a < b then if a < b then c else d else d"),
    (("if", A, B, C, CHOICE), "if a < b then c else if a < b then c else d"),
    (("if", LOOP, LOOP, LOOP, LOOP), "if loop a = b for 3 do c < loop a = b for 3 do c "
                                     "then loop a = b for 3 do c else loop a = b for 3 do c"),
    (("loop", "x", LOOP, 0, LOOP), "loop x = loop a = b for 3 do c for 0 do loop a = b for 3 do c"),
    (("loop", "x", CHOICE, 12, CHOICE), "loop x = if a < b then c else d for 12 do if a < b then c else d"),
    (("loop", "x", ("plus", A, B), 12, ("plus", A, B)), "loop x = a + b for 12 do a + b"),
    (("plus", CHOICE, A), "(if a < b then c else d) + a"),
    (("plus", A, CHOICE), "a + (if a < b then c else d)"),
    (("times", LOOP, A), "(loop a = b for 3 do c) * a"),
    (("over", A, LOOP), "a / (loop a = b for 3 do c)"),
    (("if", A, B, C, ("plus", CHOICE, A)), "if a < b then c else (if a < b then c else d) + a"),
)


def pairs_of_brackets(text):
    """The places of each pair of brackets that is neither of arguments nor of params."""
    left, pairs = [], []
    for place, sign in enumerate(text):
        if sign == "(":
            left.append(place)
        elif sign == ")":
            first = left.pop()
            if not text[first - 1].isalpha():
                pairs.append((first, place))
    return pairs


def outcome(text):
    try:
        return read(text)
    except BadText:
        return None


def most_open(told):
    """At least as many as are open at once where this is written."""
    parts = told[2] if told[0] == "call" else told[1:]
    kids = [kid for kid in parts if isinstance(kid, tuple) and kid and kid[0] in KIDS]
    return 2 + max([most_open(kid) for kid in kids], default=0)


KIDS = ("number", "name", "negative", "plus", "minus", "times", "over", "power", "if", "loop", "call")


class Written(unittest.TestCase):
    def test_rows(self):
        for row, text in ROWS:
            with self.subTest(text=text):
                self.assertEqual(written((row,)), text)
                self.assertEqual(read(text), (row,))

    def test_all_rows_of_a_program(self):
        rows = tuple(row for row, text in ROWS) * 2
        text = "\n".join(text for row, text in ROWS * 2)
        self.assertEqual(written(rows), text)
        self.assertEqual(read(text), rows)

    def test_expressions(self):
        for told, text in EXPRESSIONS:
            with self.subTest(text=text):
                self.assertEqual(node_of(told).written(), text)
                self.assertEqual(written((("show", told),)), "show " + text)
                self.assertEqual(written((("let", "x", told),)), "let x = " + text)
                self.assertEqual(written((("fun", "f", ("a", "b"), told),)), "fun f(a, b) = " + text)
                self.assertEqual(read("show " + text), (("show", told),))

    def test_a_nodes_text_is_as_it_stands_in_its_row(self):
        source = random.Random(21)
        for turn in range(200):
            told = drawn.expression(source, source.randint(1, 40), 10)
            text = node_of(told).written()
            self.assertEqual(written((("show", told),)), "show " + text)
            for kid in node_of(told).kids():
                self.assertIn(kid.written(), text)

    def test_great_numbers_are_written_all_the_same(self):
        self.assertEqual(written((("show", ("number", (10 ** 12, 7), ())),)), "show 1000000000000:7")
        self.assertEqual(node_of(("number", (1, 10 ** 300), METRE)).written(), "1:1" + "0" * 300 + "[m]")


class ReadAgain(unittest.TestCase):
    def programs(self):
        source = random.Random(22)
        for turn in range(300):
            yield drawn.program(source, nodes=20, depth=6)

    def test_what_is_written_is_read_as_that_program(self):
        asked = 0
        for program in self.programs():
            text = written(program)
            if len(text) <= 4000:
                asked += 1
                self.assertEqual(read(text), program)
                self.assertEqual(written(read(text)), text)
        self.assertGreater(asked, 200)

    def test_large_and_deep_expressions(self):
        source = random.Random(23)
        asked = 0
        for turn in range(300):
            told = drawn.expression(source, source.randint(20, 40), 10)
            if most_open(told) <= 12:
                asked += 1
                self.assertEqual(read("show " + node_of(told).written()), (("show", told),))
        self.assertGreater(asked, 20)

    def test_blanks(self):
        for program in self.programs():
            text = written(program)
            for wrong in ("  ", "( ", " )", " ,", " ^", " \n", "\n "):
                self.assertNotIn(wrong, text)

    def test_no_pair_of_brackets_can_be_left_out(self):
        asked = 0
        for program in self.programs():
            for row in program:
                text = written((row,))
                for first, last in pairs_of_brackets(text):
                    asked += 1
                    self.assertNotEqual(outcome(text[:first] + text[first + 1:last] + text[last + 1:]), (row,))
        self.assertGreater(asked, 500)

    def test_no_unit_can_be_left_out(self):
        asked = 0
        for program in self.programs():
            for row in program:
                text = written((row,))
                for place, sign in enumerate(text):
                    if sign == "[":
                        asked += 1
                        rest = text[text.index("]", place) + 1:]
                        self.assertNotEqual(outcome(text[:place] + rest), (row,))
        self.assertGreater(asked, 300)


if __name__ == "__main__":
    unittest.main()
