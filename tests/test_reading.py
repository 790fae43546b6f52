"""[P2] what a program is, [P3], [P4] how it is read, [P5] what is refused, and where: measurewise.reading."""

import random
import unittest

import drawn
import grammar
from measurewise.errors import BadText
from measurewise.reading import read
from measurewise.trees import node_of
from samples import no_numbers_no_texts

A = ("name", "a")
B = ("name", "b")
C = ("name", "c")
D = ("name", "d")
METRE = (("m", 1),)
ANY = ("number", (0, 1), None)


def whole(above):
    return ("number", (above, 1), ())


class Case(unittest.TestCase):
    def ask(self, text, program):
        with self.subTest(text=text[:200]):
            self.assertEqual(read(text), program)

    def show(self, text, told):
        self.ask("show " + text, (("show", told),))

    def refuse(self, text, at):
        with self.subTest(text=text[:200]):
            with self.assertRaises(BadText) as refusal:
                read(text)
            self.assertEqual(refusal.exception.at, at)

    def refuse_mark(self, text):
        """The place is that of the ! in the text, which itself is no part of it."""
        self.refuse(text.replace("!", ""), text.index("!"))


class Rows(Case):
    def test_each_sort(self):
        self.ask("unit m", (("unit", "m"),))
        self.ask("take g [m s^-2]", (("take", "g", (("m", 1), ("s", -2))),))
        self.ask("take g []", (("take", "g", ()),))
        self.ask("let x = a", (("let", "x", A),))
        self.ask("fun f(a) = b", (("fun", "f", ("a",), B),))
        self.ask("fun f(a, b) = c", (("fun", "f", ("a", "b"), C),))
        self.ask("fun f(a, b, c) = d", (("fun", "f", ("a", "b", "c"), D),))
        self.ask("show a", (("show", A),))

    def test_all_sorts_together(self):
        text = "unit m\nunit s\ntake g [s^-2 m]\nlet x = 3[m]\nfun f(a) = a * g\nshow f(x) / 2"
        self.ask(text, (("unit", "m"), ("unit", "s"), ("take", "g", (("m", 1), ("s", -2))),
                        ("let", "x", ("number", (3, 1), METRE)), ("fun", "f", ("a",), ("times", A, ("name", "g"))),
                        ("show", ("over", ("call", "f", (("name", "x"),)), whole(2)))))

    def test_names_are_not_looked_at(self):
        self.ask("unit m\nunit m\nfun f(a, a) = z\nshow q(m)",
                 (("unit", "m"), ("unit", "m"), ("fun", "f", ("a", "a"), ("name", "z")),
                  ("show", ("call", "q", (("name", "m"),)))))

    def test_one_row_and_sixteen(self):
        self.ask("show a", (("show", A),))
        self.ask("\n".join(["show a"] * 16), (("show", A),) * 16)

    def test_six_units(self):
        self.ask("\n".join(["unit m"] * 6 + ["show a"]), (("unit", "m"),) * 6 + (("show", A),))


class Expressions(Case):
    def test_single_ones(self):
        self.show("a", A)
        self.show("abcdefgh", ("name", "abcdefgh"))
        self.show("iff", ("name", "iff"))
        self.show("dodo", ("name", "dodo"))
        self.show("(a)", A)
        self.show("((a))", A)
        self.show("f(a)", ("call", "f", (A,)))
        self.show("f(a, b)", ("call", "f", (A, B)))
        self.show("f(a, b, c)", ("call", "f", (A, B, C)))
        self.show("f((a))", ("call", "f", (A,)))
        self.show("f(g(a), -b)", ("call", "f", (("call", "g", (A,)), ("negative", B))))

    def test_numbers(self):
        self.show("1", whole(1))
        self.show("10", whole(10))
        self.show("3:4", ("number", (3, 4), ()))
        self.show("24:2", whole(12))
        self.show("6:8[m]", ("number", (3, 4), METRE))
        self.show("999999999:999999998", ("number", (999999999, 999999998), ()))
        self.show("999999999", whole(999999999))
        self.show("1:1", whole(1))

    def test_units(self):
        self.show("3[m]", ("number", (3, 1), METRE))
        self.show("3 [m]", ("number", (3, 1), METRE))
        self.show("3[]", whole(3))
        self.show("3[s^-9 kg m^9]", ("number", (3, 1), (("kg", 1), ("m", 9), ("s", -9))))

    def test_noughts(self):
        self.show("0", ANY)
        self.show("0:5", ANY)
        self.show("0[]", ("number", (0, 1), ()))
        self.show("0:5[]", ("number", (0, 1), ()))
        self.show("0[m]", ("number", (0, 1), METRE))
        self.show("0 [m]", ("number", (0, 1), METRE))

    def test_sums_and_products_led_from_the_left(self):
        self.show("a + b", ("plus", A, B))
        self.show("a - b", ("minus", A, B))
        self.show("a * b", ("times", A, B))
        self.show("a / b", ("over", A, B))
        self.show("a - b + c", ("plus", ("minus", A, B), C))
        self.show("a / b * c", ("times", ("over", A, B), C))
        self.show("a - b * c - d", ("minus", ("minus", A, ("times", B, C)), D))
        self.show("a * b - c / d", ("minus", ("times", A, B), ("over", C, D)))
        self.show("a - (b - c)", ("minus", A, ("minus", B, C)))
        self.show("(a - b) * c", ("times", ("minus", A, B), C))

    def test_minuses_and_powers(self):
        self.show("-a", ("negative", A))
        self.show("--a", ("negative", ("negative", A)))
        self.show("- - a", ("negative", ("negative", A)))
        self.show("a^2", ("power", A, 2))
        self.show("a ^2", ("power", A, 2))
        self.show("a^-5", ("power", A, -5))
        self.show("a^0", ("power", A, 0))
        self.show("a^1", ("power", A, 1))
        self.show("-a^2", ("negative", ("power", A, 2)))
        self.show("(-a)^2", ("power", ("negative", A), 2))
        self.show("3^2", ("power", whole(3), 2))
        self.show("3[m]^2", ("power", ("number", (3, 1), METRE), 2))
        self.show("f(a)^2", ("power", ("call", "f", (A,)), 2))
        self.show("(a^2)^3", ("power", ("power", A, 2), 3))
        self.show("-a * b", ("times", ("negative", A), B))
        self.show("a * -b", ("times", A, ("negative", B)))
        self.show("a - -b", ("minus", A, ("negative", B)))
        self.show("a--b", ("minus", A, ("negative", B)))
        self.show("-a - b", ("minus", ("negative", A), B))
        self.show("-a^2 * -b^-1", ("times", ("negative", ("power", A, 2)), ("negative", ("power", B, -1))))

    def test_all_powers(self):
        for exponent in range(-5, 6):
            self.show(f"a^{exponent}", ("power", A, exponent))

    def test_choices_and_loops(self):
        choice = ("if", A, B, C, D)
        self.show("if a < b then c else d", choice)
        self.show("if a + b < c then d else a * b", ("if", ("plus", A, B), C, D, ("times", A, B)))
        self.show("if if a < b then c else d < b then c else d", ("if", choice, B, C, D))
        self.show("if a < if a < b then c else d then c else d", ("if", A, choice, C, D))
        self.show("if a < b then if a < b then c else d else d", ("if", A, B, choice, D))
        self.show("if a < b then c else if a < b then c else d", ("if", A, B, C, choice))
        self.show("(if a < b then c else d) + a", ("plus", choice, A))
        self.show("if a < b then c else d + a", ("if", A, B, C, ("plus", D, A)))
        self.show("f(if a < b then c else d, a)", ("call", "f", (choice, A)))
        self.show("loop a = b for 3 do c", ("loop", "a", B, 3, C))
        self.show("loop a = b for 3 do c + d", ("loop", "a", B, 3, ("plus", C, D)))
        self.show("loop a = loop b = c for 1 do b for 2 do a", ("loop", "a", ("loop", "b", C, 1, B), 2, A))
        self.show("loop a = b for 2 do loop b = c for 1 do b", ("loop", "a", B, 2, ("loop", "b", C, 1, B)))
        self.show("loop a = if a < b then c else d for 2 do a", ("loop", "a", choice, 2, A))

    def test_counts_of_rounds(self):
        for rounds in range(13):
            self.show(f"loop a = b for {rounds} do c", ("loop", "a", B, rounds, C))
            self.show(f"loop a = b for {rounds * 5}:5 do c", ("loop", "a", B, rounds, C))

    def test_blanks(self):
        self.ask("  show   a  ", (("show", A),))
        self.ask("show a \n  show b", (("show", A), ("show", B)))
        self.ask(" fun  f ( a ,b )=  a +b ", (("fun", "f", ("a", "b"), ("plus", A, B)),))
        self.ask("take a[m]", (("take", "a", METRE),))
        self.ask("let a=3 [m] ^2*f (b)", (("let", "a", ("times", ("power", ("number", (3, 1), METRE), 2),
                                                        ("call", "f", (B,)))),))
        self.ask("show(a)", (("show", A),))
        self.ask("show-a", (("show", ("negative", A)),))
        self.ask("show 2*a", (("show", ("times", whole(2), A)),))
        self.ask("show if a<b then(c)else 3", (("show", ("if", A, B, C, whole(3))),))
        self.ask("show loop a=b for 3do c", (("show", ("loop", "a", B, 3, C)),))

    def test_twelve_open_at_once(self):
        self.show("(" * 12 + "a" + ")" * 12, A)
        self.show("(" * 11 + "f(a)" + ")" * 11, ("call", "f", (A,)))
        self.show("(" * 11 + "-a" + ")" * 11, ("negative", A))
        self.show("(" * 11 + "if a < b then c else d" + ")" * 11, ("if", A, B, C, D))
        self.show("(" * 11 + "loop a = b for 3 do c" + ")" * 11, ("loop", "a", B, 3, C))
        self.show("(" * 12 + "a" + ")" * 12 + " + " + "(" * 12 + "a" + ")" * 12, ("plus", A, A))
        self.show("-a + " + "(" * 12 + "a" + ")" * 12, ("plus", ("negative", A), A))
        self.show("-a^2 * " + "(" * 12 + "a" + ")" * 12, ("times", ("negative", ("power", A, 2)), A))
        self.show("(if a < b then c else d) + " + "(" * 12 + "a" + ")" * 12, ("plus", ("if", A, B, C, D), A))
        self.show("f(a) * " + "(" * 12 + "a" + ")" * 12, ("times", ("call", "f", (A,)), A))
        self.ask("fun f(a) = " + "(" * 12 + "a" + ")" * 12, (("fun", "f", ("a",), A),))
        self.ask("show " + "(" * 12 + "a" + ")" * 12 + "\nshow (a)", (("show", A), ("show", A)))


class Refused(Case):
    def test_what_is_no_text(self):
        for thing in no_numbers_no_texts() + [0, 1, ("show a",), ["show a"], b"show a", (("show", A),)]:
            with self.assertRaises(BadText) as refusal:
                read(thing)
            self.assertIsNone(refusal.exception.at)
        self.refuse("show a" + " " * 3995, None)
        self.refuse("show\ta", None)
        self.refuse("show a\t", None)
        self.ask("show a" + " " * 3994, (("show", A),))

    def test_more_pieces_would_have_to_come(self):
        for text in ("", " ", "   ", "unit", "unit ", "take", "take a", "take a  ", "let", "let a", "let a =",
                     "let a = ", "fun", "fun f", "fun f(", "fun f(a", "fun f(a,", "fun f(a, b, c", "fun f(a)",
                     "fun f(a) =", "show", "show a +", "show a -  ", "show -", "show a *", "show (", "show (a",
                     "show f(", "show f(a", "show f(a,", "show f(a, b, c", "show if", "show if a", "show if a <",
                     "show if a < b", "show if a < b then", "show if a < b then c", "show if a < b then c else",
                     "show loop", "show loop a", "show loop a =", "show loop a = b", "show loop a = b for",
                     "show loop a = b for 3", "show loop a = b for 3 do", "show a\n", "show a\n  ", "unit m\n",
                     "show a\nshow", "show a\nunit"):
            self.refuse(text, len(text))

    def test_a_line_end_that_can_not_stand_there(self):
        for text in ("!\nshow a", " !\nshow a", "show!\nshow a", "show a +  !\nshow a", "unit!\nshow a",
                     "show a\n!\nshow a", "show a\n !\n", "let a =!\n", "show (a!\n)", "show f(a,!\nb)",
                     "fun f(a)!\n= b", "take a !\n[m]", "show if a < b!\nthen c else d"):
            self.refuse_mark(text)

    def test_pieces_that_can_not_stand_there(self):
        for text in ("!a", "!3", "![m]", "!^2", "!= a", "!if a", "!(a)", "!shows a", "unit !unit", "unit !3",
                     "unit ![m]", "unit m !s", "unit m !, s", "unit m ![m]", "take !take", "take a !m", "take a !3",
                     "take a != b", "take a [m] ![m]", "take a [m] !+", "let !let = a", "let a !b", "let a !(b)",
                     "let a = != b", "let a = b !c", "let a = b != c", "fun !3", "fun f !a", "fun f != a", "fun f(!)",
                     "fun f(!(a)", "fun f(!3)", "fun f(a !b)", "fun f(a, !)", "fun f(a,!, b)", "fun f(a, b, c !d)",
                     "fun f(a) !a", "fun f(a) !< a", "show !show", "show !)", "show !+ a", "show !* a", "show !^2",
                     "show ![m]", "show !, a", "show !< a", "show !then", "show !do", "show !for", "show !unit",
                     "show a !b", "show a !3", "show a ![m]", "show a^2 !^3", "show a !)", "show a !, b", "show a !< b",
                     "show a != b", "show a !if a < b then c else d", "show a + !if a < b then c else d",
                     "show -!if a < b then c else d", "show a * !loop a = b for 3 do c", "show a + !+ b",
                     "show a * !/ b", "show a - !* b", "show (!)", "show (a !b)", "show (a!, b)", "show f(!)",
                     "show f(a !b)", "show f(a, !)", "show f(a)!(b)", "show (a)!(b)", "show (a) !b", "show 3[m]![s]",
                     "show 3[m]!(a)", "show 3!(a)", "show 3 !a", "show f(a)![m]", "show (a)![m]", "show a^2![m]",
                     "show if a !then b", "show if a + !<", "show if a < b !< c", "show if a < b !else c",
                     "show if a < b then c !then", "show if a < b then c !< d", "show if a < b then c else d !else",
                     "show if a < b then c else d !< b", "show if !then", "show loop !3 = a", "show loop !loop",
                     "show loop a !b", "show loop a !< b", "show loop a = !for", "show loop a = b !do",
                     "show loop a = b for !c do", "show loop a = b for !-3 do", "show loop a = b for !(3) do",
                     "show loop a = b for 3 !for", "show loop a = b for 3![] do c", "show loop a = b for 3!^2 do c",
                     "show loop a = b for 3 !c", "show loop a = b for 3 do !do", "show loop a = b for 3 do c !for",
                     "show a\n!a", "show a\nshow b !b", "show 3!a", "show a!3"):
            self.refuse_mark(text)

    def test_signs_that_begin_no_piece(self):
        for sign in "!\"#$&'.;>?@\\]_`{|}~:ABZ":
            self.refuse("show a " + sign, 7)
            self.refuse(sign + "show a", 0)
            self.refuse("show a +  " + sign + "b", 10)
            self.refuse("show a\n " + sign, 8)

    def test_the_first_of_both_from_the_left(self):
        self.refuse("show a b $", 7)
        self.refuse("show a $ b b", 7)
        self.refuse("show a +\n$", 8)
        self.refuse("show a ) abcdefghi", 7)
        self.refuse("show abcdefghi )", 5)

    def test_longest_rows_of_letters(self):
        for text in ("show !abcdefghi", "show a + !abcdefghij", "unit !aaaaaaaaa", "!showshows a", "show 3!abcdefghi",
                     "fun f(!abcdefghi) = a", "!showa", "!unitm", "show if a < b !thenc else d",
                     "show loop a = b for 3 !doc"):
            self.refuse_mark(text)

    def test_longest_rows_of_figures(self):
        for text in ("show !1234567890", "show !00", "show !01", "show !007", "show !3:0", "show !3:00", "show !3:04",
                     "show !03:4", "show !0:0", "show !00:5", "show !3:1234567890", "show !1234567890:3", "show !1:2:3",
                     "show 1!:", "show 1!: 2", "show 1 !:2", "show 1!:a", "show 1!::2", "show 1:2!:", "show 1:2!:a",
                     "show !:2", "show 1!.5", "show 1!_000", "show loop a = b for !03 do c",
                     "show loop a = b for 3!: do c", "show a + !1234567890[m]"):
            self.refuse_mark(text)

    def test_powers_that_are_none(self):
        for text in ("show a!^6", "show a!^9", "show a!^-6", "show a!^-0", "show a!^12", "show a!^00", "show a!^02",
                     "show a!^-12", "show a!^", "show a!^-", "show a!^ 2", "show a!^- 2", "show a!^+2", "show a!^a",
                     "show a!^(2)", "show a!^2:3", "show a!^-2:3", "show a!^0:1", "show a!^:2", "show a!^--2",
                     "show a!^\n", "show a^2!:", "show a^2!: 3", "show a^2!:a", "show a^2!a", "show a^2 !3",
                     "show a^2!.5", "show a!^^2", "show a!^2:3:4"):
            self.refuse_mark(text)

    def test_units_that_are_none(self):
        for text in ("show 3![", "show 3![m", "show 3![ m]", "show 3![m ]", "show 3![m  s]", "show 3![m^1]",
                     "show 3![m^0]", "show 3![m^10]", "show 3![m^-10]", "show 3![m m]", "show 3![unit]", "show 3![M]",
                     "show 3![m,s]", "show 3![m^02]", "show 3![[m]]", "show 3![3]", "show 3![m\ns]",
                     "show 3![m\nshow 3[m]", "take a ![", "take a ![m*s]", "take a ![m", "show 3[m]!]",
                     "show 3 ![abcdefghi]"):
            self.refuse_mark(text)

    def test_counts_of_rounds(self):
        for count in ("13", "14", "999999999", "1:2", "25:2", "26:2", "121:10", "1:13"):
            self.refuse_mark(f"show loop a = b for !{count} do c")
            self.refuse_mark(f"show loop a = b for !{count}")
            self.refuse_mark(f"show loop a = b for !{count} $")

    def test_the_seventeenth_row(self):
        sixteen = "\n".join(["show a"] * 16)
        for text in ("!show a", "  !show a", "!unit m", "!\n", "  !\nshow a", "!$", "!a", "!abcdefghi", " !"):
            self.refuse(sixteen + "\n" + text.replace("!", ""), len(sixteen) + 1 + text.index("!"))
        self.refuse(sixteen + "\n", len(sixteen) + 1)
        self.refuse(sixteen + "\n   ", len(sixteen) + 4)
        self.refuse(sixteen + " b\nshow a", len(sixteen) + 1)

    def test_the_seventh_unit(self):
        six = "unit m\n" * 6
        self.refuse(six + "unit m", len(six))
        self.refuse(six + "  unit m", len(six) + 2)
        self.refuse(six + "unit", len(six))
        self.refuse(six + "unit $", len(six))
        mixed = "show a\n" * 3 + six + "show a\n"
        self.refuse(mixed + "unit m\nshow $", len(mixed))
        self.ask(six + "take a []", (("unit", "m"),) * 6 + (("take", "a", ()),))

    def test_a_fourth_argument_and_param(self):
        for text in ("show f(a, b, c!, d)", "show f(a, b, c  !, d)", "show f(a, b, c!,", "show f(a, b, c!, $",
                     "show f(a, g(a, b, c!, d))", "fun f(a, b, c!, d) = a", "fun f(a, b, c !,", "fun f(a, b, c!, $"):
            self.refuse_mark(text)
        self.show("f(g(a, b, c), b, c)", ("call", "f", (("call", "g", (A, B, C)), B, C)))

    def test_what_opens_a_thirteenth(self):
        for text in ("show " + "(" * 12 + "!(a", "show " + "(" * 12 + "f!(a)", "show " + "(" * 12 + "!-a",
                     "show " + "-" * 12 + "!-a", "show " + "(" * 12 + "!if a < b", "show " + "(" * 12 + "!loop a = b",
                     "show " + "f(" * 12 + "f!(a", "show " + "-" * 12 + "!(a", "show " + "-(" * 6 + "!-a",
                     "show " + "if " * 12 + "!if a", "show " + "loop a = " * 12 + "!loop a",
                     "show " + "if a < b then c else " * 12 + "!if a", "show " + "loop a = b for 3 do " * 12 + "!loop",
                     "show " + "(" * 11 + "-a + -!(a", "show " + "(" * 11 + "if a < b then c else !(a)",
                     "show " + "(" * 12 + "a + !(b)", "show " + "(" * 12 + "!($", "fun f(a) = " + "(" * 12 + "!(a)"):
            self.refuse_mark(text)
        self.refuse("show " + "(" * 12 + "-", 17)
        self.refuse("show " + "(" * 12, 17)

    def test_a_row_that_is_too_large(self):
        forty = "-a" + " + a" * 19
        self.assertEqual(node_of(drawn.broad(40, A)).size(), 40)
        text = "show " + self.text_of(drawn.broad(40, A))
        self.ask(text, (("show", drawn.broad(40, A)),))
        text = "show " + self.text_of(drawn.broad(41, A))
        self.refuse(text, len(text))
        self.refuse(text + "  ", len(text) + 2)
        self.refuse(text + "  \nshow a", len(text) + 2)
        self.refuse(text + "\n$", len(text))
        self.refuse(text + " $", len(text) + 1)
        self.refuse(text + " )\n", len(text) + 1)
        self.refuse("let a = " + forty, len("let a = " + forty))
        self.refuse("unit m\nfun f(a) = " + forty + "\nshow a", len("unit m\nfun f(a) = " + forty))
        longest = "show a" + "+a" * 1997
        self.refuse(longest, len(longest))
        self.refuse("show " + "f(a, b, c)*" * 300 + "a\n", len("show " + "f(a, b, c)*" * 300 + "a"))

    def test_a_row_that_is_too_deep(self):
        for told in ("-" * 10 + "a", "a" + " + a" * 10, "a" + " * a" * 10, "f(" * 10 + "a" + ")" * 10,
                     "loop a = b for 1 do " * 10 + "c", "if a < b then c else " * 8 + "-a^2"):
            text = "show " + told
            self.refuse(text, len(text))
            self.refuse(text + " \nshow a", len(text) + 1)
        self.assertEqual(len(read("show " + "-" * 9 + "a")), 1)
        self.assertEqual(len(read("show a" + " + a" * 9)), 1)
        self.assertEqual(len(read("show " + "f(" * 9 + "a" + ")" * 9)), 1)

    def text_of(self, told):
        if told[0] == "name":
            return told[1]
        if told[0] == "negative":
            return "-" + self.text_of(told[1])
        return "(" + self.text_of(told[1]) + ")*(" + self.text_of(told[2]) + ")"


class Drawn(Case):
    def test_programs_written_loosely(self):
        source = random.Random(12)
        for turn in range(300):
            program = drawn.program(source)
            text = drawn.loose_text(source, program)
            if len(text) <= 4000:
                self.ask(text, program)

    PIECES = (("unit", "unit"), ("take", "take"), ("let", "let"), ("fun", "fun"), ("show", "show"), ("if", "if"),
              ("then", "then"), ("else", "else"), ("loop", "loop"), ("for", "for"), ("do", "do"), ("NAME", "a"),
              ("NAME", "speed"), ("NUMBER", "13"), ("NUMBER", "1:2"), ("COUNT", "12"), ("COUNT", "6:3"), ("UNIT",
              "[m]"),
              ("UNIT", "[]"), ("POWER", "^2"), ("POWER", "^-5"), ("+", "+"), ("-", "-"), ("*", "*"), ("/", "/"),
              ("(", "("), (")", ")"), (",", ","), ("<", "<"), ("=", "="), ("line", "\n"))

    def kind_of(self, text):
        marked = {"\n": "line", "[": "UNIT", "^": "POWER"}
        if (text, text) in self.PIECES or text[0] in marked:
            return marked.get(text[0], text)
        if text[0].isdigit():
            above, colon, below = text.partition(":")
            amount, rest = divmod(int(above), int(below or "1"))
            return "COUNT" if rest == 0 and amount <= 12 else "NUMBER"
        return "NAME"

    def pieces_of(self, source, program):
        pieces = []
        for row in program:
            pieces += ["\n"] + drawn.loose_row(source, row)
        return pieces[1:]

    def test_programs_with_a_piece_put_in_left_out_or_another(self):
        source = random.Random(13)
        asked = 0
        for turn in range(400):
            program = tuple(drawn.row(source, 4, 3) for count in range(source.randint(1, 3)))
            pieces = self.pieces_of(source, program)
            place = source.randrange(len(pieces) + 1)
            new = [source.choice(self.PIECES)[1]] * source.randint(0, 1)
            pieces[place:place + source.randint(0, 1)] = new
            stood, is_program = grammar.standing([self.kind_of(piece) for piece in pieces])
            text = "".join(piece + " " for piece in pieces)
            if is_program:
                read(text)
            else:
                asked += 1
                self.refuse(text, sum(len(piece) + 1 for piece in pieces[:stood]))
        self.assertGreater(asked, 200)


if __name__ == "__main__":
    unittest.main()
