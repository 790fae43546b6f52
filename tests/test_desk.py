"""[D1] to [D6] a desk, and [A2] of it: measurewise.desk."""

import random
import unittest

import reckoned
import sound
from measurewise.desk import Desk
from measurewise.fractions import shown_fraction
from measurewise.kinds import kinds_of
from measurewise.marked import run_marked
from measurewise.reading import read
from measurewise.units import shown_unit
from measurewise.why import shown_why
from measurewise.writing import written
from samples import no_numbers_no_texts

NONE = "no such line"


class Case(unittest.TestCase):
    def setUp(self):
        self.desk = Desk()

    def state(self):
        """All that a desk tells of itself, but for the numbers taken."""
        return [self.desk.answer(line) for line in ("rows", "kinds", "tables", "tell 1", "tell 2", "tell 3")]

    def ask(self, line, *lines):
        told = self.desk.answer(line)
        self.assertEqual((told, told.__class__), (list(lines), list), line)

    def refuse(self, line, answer):
        """The answer to what is refused, which changes nothing."""
        before = self.state()
        self.ask(line, answer)
        self.assertEqual(self.state(), before, line)

    def put(self, *lines):
        for line in lines:
            count = len(self.desk.answer("rows")) + 1 if self.desk.answer("rows") != ["nothing"] else 1
            self.ask(line, f"row {count}")


class Lines(Case):
    def test_what_is_no_str(self):
        for thing in no_numbers_no_texts() + [1, 0, ("rows",), ["rows"], b"rows"]:
            self.assertEqual(self.desk.answer(thing), [NONE])

    def test_line_ends(self):
        for line in ("rows\n", "\nrows", "unit m\n", "unit m\nunit s", "\n", "show 1\n", "set a 1\n", "why show 1\n",
                     "table a = 1 [m\n]", "tell 1\n", "out 1\n"):
            self.refuse(line, NONE)

    def test_what_is_none_of_the_lines(self):
        for line in ("", " ", "row", "rows ", " rows", "rows 1", "kinds ", "kinds 1", "tables ", "tables x", "Rows",
                     "hello", "hello world", "out", "set", "clear", "tell", "table", "drop", "why", "out1", "outs 1",
                     "set a", "set ", "tell 1 ", "tell 1 x", "tell 1 in", "tell 1 in ", "tell 1 in [m]",
                     "tell 1 in [m] to 2", "tell 1 in [m] to 2 by", "tell 1 in [m] by up", "tell 1 in [m] by up to 2",
                     "tell 1 in to 2 by up", "tell 1 in [m] to by up", "tell 1  in [m] to 2 by up",
                     "tell 1 to 2 by up in [m]", "tell  in", "table a", "table a = 1", "table a=1 [m]", "table a = ",
                     "table = 1 [m]", "table a =1 [m]", "table a= 1 [m]", " unit m", "units m", "unit\tm", "show(1)",
                     "\trows", "rows\t", "unit,", "Show 1", "if 1 < 2 then 3 else 4", "m", "1", "~", "in"):
            self.refuse(line, NONE)

    def test_long_lines(self):
        long = "a" * 100000
        self.refuse(long, NONE)
        self.refuse("unit " + long, "bad text")
        self.refuse("why unit " + long, "bad text")
        self.refuse("out " + "1" * 100000, "no row")
        self.refuse("tell " + "1" * 100000, "no row")
        self.refuse("drop " + long, "bad name")
        self.refuse("clear " + long, "no name " + long)
        self.put("take a []")
        self.refuse("set a " + "1" * 100000, "bad number")
        self.refuse("set a 1:" + "1" * 100000, "bad number")
        self.refuse("set a 1 [" + "m" * 100000 + "]", "bad unit")
        self.ask("show " + " " * 3994 + "1", "row 2")
        self.refuse("show " + " " * 3995 + "1", "bad text")

    def test_nothing(self):
        for line in ("rows", "kinds", "tables"):
            self.ask(line, "nothing")


class Rows(Case):
    def test_of_all_sorts(self):
        self.ask("unit m", "row 1")
        self.ask("unit s", "row 2")
        self.ask("take  g [s^-2 m]", "row 3")
        self.ask("let h = (g) * 2[s]", "row 4")
        self.ask("fun f( a,b ) = a^2/b", "row 5")
        self.ask("show f(h, 6:4[m])  ", "row 6")
        self.ask("rows", "1 unit m", "2 unit s", "3 take g [m s^-2]", "4 let h = g * 2[s]", "5 fun f(a, b) = a^2 / b",
                 "6 show f(h, 3:2[m])")

    def test_bad_texts(self):
        for line, at in (("unit", 4), ("unit ", 5), ("unit unit", 5), ("unit m s", 7), ("take a", 6), ("take a [", 7),
                         ("let a", 5), ("let a =", 7), ("let a = 1 +", 11), ("fun f() = 1", 6), ("show", 4),
                         ("show ?", 5), ("show 01", 5), ("show 1 show 2", 7), ("show 1[m", 6), ("show 1[M]", 6)):
            self.refuse(line, f"bad text {at}")

    def test_bad_texts_without_a_place(self):
        self.refuse("show 1\t", "bad text")
        self.refuse("show\t1", NONE)
        self.refuse("unit m" + " " * 4000, "bad text")

    def test_names(self):
        self.put("unit m", "take a [m]", "fun f(x) = x")
        self.refuse("unit m", "twice m")
        self.refuse("let a = 1", "twice a")
        self.refuse("fun g(x, x) = 1", "twice x")
        self.refuse("show q", "no name q")
        self.refuse("show 1[s]", "no name s")
        self.refuse("take b [q]", "no name q")
        self.refuse("show f(1, 2)", "bad count f")

    def test_clash_and_steep(self):
        self.put("unit m", "let a = 1[m^8]^4", "let b = a * a")
        self.refuse("show 1 + 1[m]", "clash")
        self.refuse("fun f(x) = x^2 + 1[m]", "clash")
        self.refuse("show b * 1[m]", "steep")
        self.refuse("let c = 1 / b / 1[m]", "steep")
        self.put("show b * 1")

    def test_sixteen_rows_and_a_seventeenth(self):
        self.put(*["show 1"] * 16)
        self.refuse("show 1", "bad text")
        self.refuse("unit m", "bad text")
        self.refuse("show 1 +", "bad text 8")
        self.ask("out 16", "done")
        self.put("unit m")

    def test_six_units_and_a_seventh(self):
        self.put(*["unit " + name for name in "abcdef"])
        self.refuse("unit g", "bad text")
        self.refuse("unit a", "bad text")
        self.put("show 1[a b c d e f]", "take g []")


class Out(Case):
    def test_rows_taken_out(self):
        self.put("unit m", "take a [m]", "show 1", "show a")
        self.ask("out 3", "done")
        self.ask("rows", "1 unit m", "2 take a [m]", "3 show a")
        self.refuse("out 2", "no name a")
        self.refuse("out 1", "no name m")
        self.ask("out 3", "done")
        self.ask("out 2", "done")
        self.ask("out 1", "done")
        self.ask("rows", "nothing")
        self.ask("kinds", "nothing")

    def test_no_row(self):
        for rows in ([], ["show 1", "show 2"]):
            self.put(*rows)
            for text in ("", "0", "3", "-1", "01", "1 ", " 1", "1 1", "x", "1:1", "+1", "999999999", "1000000001",
                         "1.0", "one", "[1]"):
                self.refuse("out " + text, "no row")

    def test_functions_that_are_called(self):
        self.put("fun f(x) = x", "let a = f(1)", "show a")
        self.refuse("out 1", "no name f")
        self.refuse("out 2", "no name a")
        self.ask("out 3", "done")
        self.ask("out 2", "done")
        self.ask("out 1", "done")

    def test_a_take_taken_out_and_put_in_again_has_no_number(self):
        self.put("take b []", "show 1", "take a []")
        self.ask("set a 5", "done")
        self.ask("set b 7", "done")
        self.ask("out 3", "done")
        self.put("take a []")
        self.ask("tell 1", "no value a")
        self.ask("clear a", "no value a")
        self.ask("clear b", "done")

    def test_the_numbers_of_others_stay(self):
        self.put("take b []", "let c = 1", "show b", "take a []")
        self.ask("set b 7", "done")
        self.ask("out 2", "done")
        self.ask("out 3", "done")
        self.ask("tell 1", "7")

    def test_what_is_not_taken_out_keeps_its_number(self):
        self.put("take a []", "show a")
        self.ask("set a 5", "done")
        self.refuse("out 1", "no name a")
        self.ask("tell 1", "5")


class Kinds(Case):
    def test_of_all_sorts(self):
        self.put("unit m", "unit s", "take g [m s^-2]", "let z = 0", "let y = 0^2 * 1[m]", "show g * 1[s^2]", "show 3",
                 "fun f(a) = a", "fun h(a, b) = a^2 / b", "fun i(a, b, c) = a * 1[m^3]", "fun j(a) = a + 1",
                 "fun k(a, b) = a^2 + b^3 * 1[m]", "fun l(a, b) = a * b + 1")
        self.ask("kinds", "1 unit", "2 unit", "3 [m s^-2]", "4 [?1]", "5 [?1^2 m]", "6 [m]", "7 []", "8 [?1] -> [?1]",
                 "9 [?1], [?2] -> [?1^2 ?2^-1]", "10 [?1], [?2], [?3] -> [?1 m^3]", "11 [] -> []",
                 "12 [?1^3 m^2], [?1^2 m] -> [?1^6 m^4]", "13 [?1], [?1^-1] -> []")


class Set(Case):
    def setUp(self):
        Case.setUp(self)
        self.put("unit m", "unit s", "take g [m s^-1]", "take a []", "show g", "show a", "let b = 1", "fun f(x) = x")

    def test_in_its_own_unit(self):
        for text in ("3", "-3:4", "0", "999999999", "-999999999:999999998", "1:999999999", "-1"):
            self.ask("set g " + text, "done")
            self.ask("set a 1", "done")
            self.ask("tell 1", text + " [m s^-1]")
        self.ask("set a 7", "done")
        self.ask("tell 2", "7")

    def test_in_another_unit(self):
        self.ask("set a 0", "done")
        self.ask("set g 3 [m s^-1]", "done")
        self.ask("tell 1", "3 [m s^-1]")
        self.ask("table km = 1000 [m]", "done")
        self.ask("table h = 3600 [s]", "done")
        self.ask("set g 36 [h^-1 km]", "done")
        self.ask("tell 1", "10 [m s^-1]")
        self.ask("set g -1:2 [km s^-1]", "done")
        self.ask("tell 1", "-500 [m s^-1]")
        self.ask("set a 3 []", "done")
        self.ask("set a 3 [km m^-1]", "done")
        self.ask("tell 2", "3000")

    def test_no_name(self):
        for name in ("q", "b", "f", "m", "x", "", "G", "unit", "g,", "1", "[m]"):
            self.refuse(f"set {name} 3", f"no name {name}")
            self.refuse(f"set {name} x [", f"no name {name}")
            self.refuse(f"set {name} ", f"no name {name}")

    def test_bad_numbers(self):
        for text in ("", "x", "+3", "03", "-0", "3:1", "6:8", "0:5", "3:0", "3:-4", "1:02", "--3", "3:", ":3", "1:2:3",
                     "1000000000", "1:1000000000", "-1000000000", "3.0", "1/2", "-", "g", "[3]", "-:", "3[m]", "-03"):
            self.refuse(f"set g {text}", "bad number")
            self.refuse(f"set g {text} [q]", "bad number")
            self.refuse(f"set g {text} ", "bad number")
        self.refuse("set g  3", "bad number")

    def test_bad_units(self):
        for text in ("", "m", "[m", "m]", "[M]", "[m  s]", "[m^10]", "[m^0]", "[m m]", " [m]", "[m] ", "[m]x", "[", "]",
                     "[[m]]", "[m^1]", "[unit]", "[m]]"):
            self.refuse(f"set g 3 {text}", "bad unit")

    def test_unlike_and_bad_table(self):
        self.refuse("set g 3 [m]", "unlike")
        self.refuse("set g 3 []", "unlike")
        self.refuse("set g 0 [q]", "unlike")
        self.refuse("set a 3 [m]", "unlike")
        self.ask("table big = 1 [m^8]", "done")
        self.refuse("set g 3 [big^9]", "bad table")

    def test_set_again_and_clear(self):
        self.ask("set g 3", "done")
        self.ask("set g 4", "done")
        self.ask("set a 1", "done")
        self.ask("tell 1", "4 [m s^-1]")
        self.ask("clear g", "done")
        self.ask("tell 1", "no value g")
        self.refuse("clear g", "no value g")
        self.refuse("set g x", "bad number")
        self.refuse("clear g", "no value g")

    def test_what_is_refused_changes_no_number(self):
        self.ask("set g 3", "done")
        self.ask("set a 1", "done")
        for line in ("set g x", "set g 4 [m]", "set g 4 [", "clear q", "clear "):
            self.desk.answer(line)
            self.ask("tell 1", "3 [m s^-1]")

    def test_clear_of_no_take(self):
        for name in ("q", "b", "f", "m", "", "g ", "g a", " g", "G"):
            self.refuse(f"clear {name}", f"no name {name}")


class Tell(Case):
    def test_answers(self):
        self.put("unit m", "unit s", "show 3:4[s^-1 m]", "show 5", "show 0", "show 0[m]", "show -1[m]", "show 0 * 1[m]",
                 "let z = 0", "show z + 1[m]")
        self.ask("tell 1", "3:4 [m s^-1]")
        self.ask("tell 2", "5")
        self.ask("tell 3", "0")
        self.ask("tell 4", "0 [m]")
        self.ask("tell 5", "-1 [m]")
        self.ask("tell 6", "0")
        self.ask("tell 7", "1 [m]")

    def test_no_row(self):
        self.refuse("tell 1", "no row")
        self.put("unit m", "take a [m]", "show a", "show 2")
        for text in ("0", "3", "", "01", "-1", "x", "1:1", "1000000000", "[1]"):
            self.refuse("tell " + text, "no row")
            self.refuse(f"tell {text} in [M] to x by x", "no row")
        self.ask("tell 1", "no value a")

    def test_no_value(self):
        self.put("take b []", "take a []", "show 1", "show 1 / 0")
        self.ask("tell 1", "no value b")
        self.ask("set b 1", "done")
        self.ask("tell 1", "no value a")
        self.ask("tell 2 in [M] to x by x", "no value a")
        self.ask("tell 3", "no row")
        self.ask("set a 1", "done")
        self.ask("tell 1", "1")
        self.ask("tell 2", "refused 4 nought")

    def test_refused_only_where_the_run_ends_ahead(self):
        self.put("show 1", "show 2", "let a = 1 / 0", "show 3", "show 4")
        self.ask("tell 1", "1")
        self.ask("tell 2", "2")
        self.ask("tell 3", "refused 3 nought")
        self.ask("tell 4", "refused 3 nought")
        self.ask("tell 4 in [M] to x by x", "refused 3 nought")
        self.ask("tell 2 in [] to 1 by up", "2.0")
        self.ask("tell 5", "no row")

    def test_each_word(self):
        loops = "loop x = 1 for 12 do loop x = 1 for 12 do loop x = 1 for 12 do x"
        self.put(f"show {loops}", f"show {loops}")
        self.ask("tell 1", "1")
        self.ask("tell 2", "refused 2 dry")
        self.desk = Desk()
        self.put("take a []", "fun f(x) = x * x", "show a", "show f(f(f(a)))")
        self.ask("set a 999999999", "done")
        self.ask("tell 2", "999999992000000027999999944000000069999999944000000027999999992000000001")
        self.put("show f(f(f(f(f(a)))))")
        self.ask("tell 3", "refused 5 great")

    def test_in_a_unit(self):
        self.put("unit m", "unit s", "show 10[m s^-1]", "show 5", "show 0", "show -2[m]")
        for line in ("table km = 1000 [m]", "table h = 3600 [s]", "table half = 1:2 []"):
            self.ask(line, "done")
        self.ask("tell 1 in [m s^-1] to 0 by down", "10 [m s^-1]")
        self.ask("tell 1 in [s^-1 m] to 2 by down", "10.00 [m s^-1]")
        self.ask("tell 1 in [km h^-1] to 1 by even", "36.0 [h^-1 km]")
        self.ask("tell 1 in [km s^-1] to 1 by up", "0.1 [km s^-1]")
        self.ask("tell 1 in [km s^-1] to 1 by down", "0.0 [km s^-1]")
        self.ask("tell 4 in [km] to 2 by down", "0.00 [km]")
        self.ask("tell 4 in [km] to 2 by up", "-0.01 [km]")
        self.ask("tell 2 in [] to 3 by away", "5.000")
        self.ask("tell 2 in [half] to 0 by away", "10 [half]")
        self.ask("tell 2 in [km m^-1] to 2 by even", "0.00 [km m^-1]")
        self.ask("tell 2 in [km m^-1] to 3 by even", "0.005 [km m^-1]")
        self.ask("tell 2 in [] to 40 by down", "5." + "0" * 40)

    def test_what_is_left_open(self):
        self.put("unit m", "show 0", "show 0 * 1[m]")
        for number in (1, 2):
            self.ask(f"tell {number}", "0")
            self.ask(f"tell {number} in [m] to 2 by up", "0.00 [m]")
            self.ask(f"tell {number} in [q^3] to 0 by up", "0 [q^3]")
            self.ask(f"tell {number} in [] to 0 by up", "0")

    def test_ways(self):
        self.put("show 5:2")
        for way, text in (("down", "2"), ("up", "3"), ("away", "3"), ("even", "2")):
            self.ask(f"tell 1 in [] to 0 by {way}", text)

    def test_refused_in_this_order(self):
        self.put("unit m", "show 1[m]")
        self.ask("table big = 1 [m^8]", "done")
        for unit in ("", "m", "[M]", "[m", "[m^0]", "[m] "):
            self.refuse(f"tell 1 in {unit} to x by x", "bad unit")
        for way in ("", "x", "Up", "up ", " up", "up by down"):
            self.refuse(f"tell 1 in [q] to x by {way}", "bad name")
            self.refuse(f"tell 1 in [big^9] to x by {way}", "bad name")
        self.refuse("tell 1 in [q] to x by up", "unlike")
        self.refuse("tell 1 in [] to 41 by up", "unlike")
        self.refuse("tell 1 in [big^9] to x by up", "bad table")
        for figures in ("", "x", "41", "01", "-1", "1.0", "1000000000", "1:1", " 1", "1 "):
            self.refuse(f"tell 1 in [m] to {figures} by up", "bad number")
        self.ask("tell 1 in [m] to 40 by up", "1." + "0" * 40 + " [m]")
        self.refuse("tell 1 in [m] to 1 to 2 by up", "bad number")


class Tables(Case):
    def test_as_they_came(self):
        self.ask("table km = 1000 [m]", "done")
        self.ask("table h = 3600 [s]", "done")
        self.ask("table kmh = 1 [km h^-1]", "done")
        self.ask("table half = 1:2 []", "done")
        self.ask("tables", "km = 1000 [m]", "h = 3600 [s]", "kmh = 1 [h^-1 km]", "half = 1:2 []")
        self.ask("drop kmh", "done")
        self.ask("drop km", "done")
        self.ask("table km = 999999999:2 [m]", "done")
        self.ask("tables", "h = 3600 [s]", "half = 1:2 []", "km = 999999999:2 [m]")

    def test_refused_in_this_order(self):
        self.put("unit m", "unit s", "take a [m]")
        self.ask("table km = 1000 [m]", "done")
        for rest in ("x [", "0 [m]", "1 [m]", "-1 []", " "):
            self.refuse("table m = " + rest, "twice m")
        for amount in ("", "x", "6:8", "01", "1000000000", "-0"):
            self.refuse(f"table K = {amount} [", "bad number")
        for unit in ("", "m", "[M]", "[m", " [m]", "[m] ", "[m^0]"):
            self.refuse(f"table K = 0 {unit}", "bad unit")
        for name in ("K", "", "unit", "abcdefghi", "a b", "k2", " k"):
            self.refuse(f"table {name} = 0 [m]", "bad name")
        for amount in ("0", "-1", "-3:4"):
            self.refuse(f"table km = {amount} [m]", "bad number")
        self.refuse("table km = 1 [km]", "twice km")
        self.refuse("table km = 1000 [m]", "twice km")
        self.refuse("table k = 1 [k]", "bad table")
        self.refuse("table q = 1 [km^9 q]", "bad table")

    def test_parted_at_the_first_marks(self):
        self.refuse("table a = b = 1 [m]", "bad number")
        self.refuse("table a = 1  [m]", "bad unit")
        self.refuse("table a =  1 [m]", "bad number")
        self.refuse("table  a = 1 [m]", "bad name")
        self.refuse("table a  = 1 [m]", "bad name")
        self.ask("table a = 1 [m s]", "done")

    def test_bad_tables(self):
        self.ask("table a = 2 [b]", "done")
        self.refuse("table b = 2 [a]", "bad table")
        self.refuse("table b = 2 [c]", "bad table")
        self.ask("table big = 1 [m^8]", "done")
        self.refuse("table c = 1 [big^9]", "bad table")
        for name in "defghijklo":
            self.ask(f"table {name} = 1 []", "done")
        self.refuse("table p = 1 []", "bad table")

    def test_drop(self):
        for name in ("", "K", "a b", "unit", "a "):
            self.refuse("drop " + name, "bad name")
        self.refuse("drop km", "no name km")
        self.ask("table km = 1000 [m]", "done")
        self.ask("table acre = 4 [km^2]", "done")
        self.refuse("drop km", "bad table")
        self.refuse("drop m", "no name m")
        self.ask("drop acre", "done")
        self.ask("drop km", "done")
        self.ask("tables", "nothing")

    def test_twice_whichever_came_first(self):
        self.put("unit m")
        self.refuse("table m = 1 [s]", "twice m")
        self.ask("table km = 1000 [m]", "done")
        self.refuse("unit km", "twice km")
        # Only units of the program: other names may be the same.
        self.put("take km []", "show km")
        self.ask("table a = 1 []", "done")
        self.put("let a = 1")
        self.ask("table b = 1 []", "done")
        self.put("fun b(x) = x")
        self.ask("drop b", "done")
        self.ask("out 5", "done")
        self.put("unit b")
        self.refuse("table b = 1 []", "twice b")
        self.ask("out 5", "done")
        self.ask("table b = 1 []", "done")

    def test_twice_of_a_row_behind_all_else(self):
        self.ask("table km = 1000 [m]", "done")
        self.refuse("unit km", "twice km")
        self.refuse("unit km x", "bad text 8")
        self.put(*["unit " + name for name in "abcdef"])
        self.refuse("unit km", "bad text")
        self.desk = Desk()
        self.ask("table km = 1000 [m]", "done")
        self.put("take km []")
        self.refuse("unit km", "twice km")
        self.put("unit n")


class Why(Case):
    def test_let_by(self):
        for line in ("why unit m", "why show 1", "why fun f(x) = x^2", "why  show 1 "):
            self.refuse(line, "let by")
        self.ask("rows", "nothing")

    def test_the_table_is_not_looked_at(self):
        self.ask("table km = 1000 [m]", "done")
        self.refuse("why unit km", "let by")
        self.refuse("unit km", "twice km")

    def test_lines(self):
        self.put("unit m", "show 1")
        self.ask("why show 1 + (2[m])", "row 3", "1 of 1 in 1 + 2[m]", "left over: m^-1")
        self.ask("why fun f(x) = 3 * (x^2 - 1[m])", "row 3", "1 of 1 in x^2 - 1[m]", "left over by 2: m")
        self.ask("why let a = if 1 < 1[m] then 2 else 3", "row 3", "1 of 1 in if 1 < 1[m] then 2 else 3",
                 "left over: m^-1")
        self.ask("rows", "1 unit m", "2 show 1")

    def test_refused(self):
        self.put("unit m", "take a [m]", "fun f(x) = x")
        for row, answer in (("", "bad text 0"), ("x", "bad text 0"), ("show", "bad text 4"), ("show 1 +", "bad text 8"),
                            (" ", "bad text 1"), ("show 1\t", "bad text"), ("rows", "bad text 0"),
                            ("why show 1", "bad text 0"), ("unit m", "twice m"), ("let a = 1", "twice a"),
                            ("show q", "no name q"), ("show f(1, 2)", "bad count f"),
                            ("show (1[m^9]^5)^2", "steep")):
            self.refuse("why " + row, answer)

    def test_a_seventeenth_row(self):
        self.put(*["show 1"] * 16)
        self.refuse("why show 1", "bad text")
        self.refuse("why show", "bad text 4")


class Kept(Case):
    def test_told_lists_changed_behind(self):
        self.put("unit m", "show 1[m]")
        self.ask("table km = 1000 [m]", "done")
        lines = ("rows", "kinds", "tables", "tell 1", "why show 1 + 1[m]", "why show 1", "out 9", "hello", "drop q")
        before = {line: list(self.desk.answer(line)) for line in lines}
        for line in lines:
            told = self.desk.answer(line)
            told.append("more")
            told[0] = "other"
        for line in lines:
            self.assertEqual(self.desk.answer(line), before[line])
        empty = Desk()
        empty.answer("rows").append("more")
        self.assertEqual(empty.answer("rows"), ["nothing"])

    def test_two_desks_know_nothing_of_each_other(self):
        other = Desk()
        self.put("unit m", "take a [m]", "show a")
        self.ask("set a 3", "done")
        self.ask("table km = 1000 [m]", "done")
        for line in ("rows", "kinds", "tables"):
            self.assertEqual(other.answer(line), ["nothing"])
        self.assertEqual(other.answer("set a 3"), ["no name a"])
        self.assertEqual(other.answer("unit km"), ["row 1"])
        self.ask("tell 1", "3 [m]")


class Drawn(Case):
    def test_programs_put_row_by_row(self):
        source = random.Random(151)
        told = 0
        for turn in range(60):
            program = sound.program(source)[0]
            taken = reckoned.drawn_taken(source, program)
            taken = {name: amount if amount[0] < 10 ** 9 else (3, 1) for name, amount in taken.items()}
            self.desk = Desk()
            self.put(*written(program).split("\n"))
            self.ask("rows", *[f"{number} {line}" for number, line in enumerate(written(program).split("\n"), start=1)])
            for name, amount in taken.items():
                self.ask(f"set {name} {shown_fraction(amount)}", "done")
            outcome = run_marked(program, taken)
            shows = [kind for row, kind in zip(program, kinds_of(program)) if row[0] == "show"]
            for number, kind in enumerate(shows, start=1):
                if number > len(outcome[-1]):
                    self.ask(f"tell {number}", f"refused {outcome[1] + 1} {outcome[2]}")
                else:
                    told += 1
                    unit = "" if kind[0] or kind[2][1] == () else f" [{shown_unit(kind[2][1])}]"
                    self.ask(f"tell {number}", shown_fraction(outcome[-1][number - 1][0]) + unit)
        self.assertGreater(told, 50)

    def test_rows_that_are_not_let_by(self):
        source = random.Random(152)
        seen = {}
        for turn in range(150):
            lines = written(sound.program(source)[0]).split("\n")
            others = written(sound.program(source)[0]).split("\n")
            self.desk = Desk()
            put = []
            for line in lines + others:
                answer = self.desk.answer(line)
                seen[answer[0].split()[0]] = seen.get(answer[0].split()[0], 0) + 1
                if answer == ["clash"]:
                    self.ask("why " + line, *shown_why(read("\n".join(put + [line]))))
                elif answer == [f"row {len(put) + 1}"]:
                    put.append(line)
                else:
                    self.assertIn(answer[0].split()[0], ("twice", "no", "bad", "steep"))
                    self.assertNotEqual(answer, [NONE])
        self.assertGreater(min(seen.get(word, 0) for word in ("row", "clash", "twice", "no")), 15, seen)


if __name__ == "__main__":
    unittest.main()
