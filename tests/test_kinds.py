"""[K1], [K4], [K5] the kinds of rows, and [A2] what is refused first: measurewise.kinds."""

import copy
import random
import unittest

import sound
from measurewise.errors import BadCount, BadText, Clash, NoName, Steep, Twice
from measurewise.kinds import kinds_of
from measurewise.normal import normal
from measurewise.putting import met_by, put_in
from measurewise.reading import read
from measurewise.solving import solved
from measurewise.sums import sums_of
from measurewise.units import is_unit
from samples import no_numbers_no_texts

METRE = (("m", 1),)


def names_of(program):
    return [row[1] for row in program if row[0] == "unit"]


def rows_of(kind, names):
    """A kind's measures as rows, the params' and then the result's."""
    return [list(measure[0]) + [dict(measure[1]).get(name, 0) for name in names] for measure in kind[1] + (kind[2],)]


class Case(unittest.TestCase):
    def kinds(self, text):
        program = read(text) if isinstance(text, str) else text
        before = copy.deepcopy(program)
        told = kinds_of(program)
        self.assertEqual(program, before)
        self.assertEqual(kinds_of(program), told)
        self.assertEqual((told.__class__, len(told)), (list, len(program)))
        for row, kind in zip(program, told):
            if row[0] == "unit":
                self.assertIsNone(kind)
            else:
                self.ask_form(kind, len(row[2]) if row[0] == "fun" else 0, names_of(program))
        return told

    def ask_form(self, kind, params, names):
        self.assertEqual([kind.__class__, kind[0].__class__, kind[1].__class__], [tuple, int, tuple])
        self.assertEqual((len(kind), len(kind[1])), (3, params))
        for measure in kind[1] + (kind[2],):
            self.assertEqual([measure.__class__, len(measure), measure[0].__class__], [tuple, 2, tuple])
            self.assertEqual([exponent.__class__ for exponent in measure[0]], [int] * kind[0])
            self.assertTrue(is_unit(measure[1]))
            self.assertTrue(all(abs(exponent) <= 64 for exponent in measure[0]))
            self.assertTrue(all(abs(exponent) <= 64 for name, exponent in measure[1]))
        rows = rows_of(kind, names)
        self.assertEqual(normal(kind[0], len(names), rows), (kind[0], rows))

    def last(self, text):
        return self.kinds(text)[-1]

    def refuse(self, text, kind):
        program = read(text) if isinstance(text, str) else text
        before = copy.deepcopy(program)
        with self.subTest(program=text):
            with self.assertRaises(kind) as refusal:
                kinds_of(program)
            self.assertEqual(program, before)
            with self.assertRaises(kind) as again:
                kinds_of(program)
            self.assertEqual(vars(again.exception), vars(refusal.exception))
            return refusal.exception


class Told(Case):
    def test_units_and_takes(self):
        self.assertEqual(self.kinds("unit m\ntake a [m]\nunit s\ntake b []\ntake c [s^-9 m^9]"),
                         [None, (0, (), ((), METRE)), None, (0, (), ((), ())),
                          (0, (), ((), (("m", 9), ("s", -9))))])

    def test_lets_and_shows(self):
        two = "unit m\nunit s\ntake a [m]\ntake b [s]\n"
        self.assertEqual(self.last(two + "let v = a / b"), (0, (), ((), (("m", 1), ("s", -1)))))
        self.assertEqual(self.last(two + "let v = a / b\nshow v * b + a"), (0, (), ((), METRE)))
        self.assertEqual(self.last(two + "show if a < 1[m] then b else 0"), (0, (), ((), (("s", 1),))))
        self.assertEqual(self.last("show 1"), (0, (), ((), ())))
        self.assertEqual(self.last("unit s\nunit m\nshow 1[m s]"), (0, (), ((), (("m", 1), ("s", 1)))))

    def test_noughts_of_any_unit(self):
        self.assertEqual(self.last("show 0"), (1, (), ((1,), ())))
        self.assertEqual(self.last("show 0 * 0"), (1, (), ((1,), ())))
        self.assertEqual(self.last("unit m\nlet a = 0^2 * 1[m]"), (1, (), ((2,), METRE)))
        self.assertEqual(self.last("unit m\nlet a = 0^-2 * 3[m^5]"), (1, (), ((2,), METRE)))
        self.assertEqual(self.last("unit m\nlet a = 0^3 * 3[m^5]\nshow a"), (1, (), ((3,), (("m", 2),))))
        self.assertEqual(self.last("unit m\nlet a = 0\nshow a + 1[m]"), (0, (), ((), METRE)))
        self.assertEqual(self.last("unit m\nlet a = 0\nshow (a + 1[m]) * (a + 1)"), (0, (), ((), METRE)))
        self.assertEqual(self.last("show 0^0"), (0, (), ((), ())))
        self.assertEqual(self.last("show loop x = 0 for 0 do 1"), (0, (), ((), ())))

    def test_functions(self):
        self.assertEqual(self.last("fun f(a) = a"), (1, (((1,), ()),), ((1,), ())))
        self.assertEqual(self.last("fun f(a, b) = a * b"), (2, (((1, 0), ()), ((0, 1), ())), ((1, 1), ())))
        self.assertEqual(self.last("fun f(a, b, c) = a / b"),
                         (3, (((1, 0, 0), ()), ((0, 1, 0), ()), ((0, 0, 1), ())), ((1, -1, 0), ())))
        self.assertEqual(self.last("fun f(a, b) = a + b"), (1, (((1,), ()), ((1,), ())), ((1,), ())))
        self.assertEqual(self.last("unit m\nfun f(a) = a * 2[m]"), (1, (((1,), ()),), ((1,), METRE)))
        self.assertEqual(self.last("unit m\nfun f(a) = a + 2[m]"), (0, (((), METRE),), ((), METRE)))
        self.assertEqual(self.last("fun f(a) = 0"), (2, (((1, 0), ()),), ((0, 1), ())))
        self.assertEqual(self.last("fun f(a) = if a < 1 then 0 else 0"), (1, (((0,), ()),), ((1,), ())))
        self.assertEqual(self.last("unit m\nfun f(a, b) = a * b + 1[m]"),
                         (1, (((1,), ()), ((-1,), METRE)), ((0,), METRE)))

    def test_square_roots(self):
        self.assertEqual(self.last("fun f(a, b) = a^2 + b"), (1, (((1,), ()), ((2,), ())), ((2,), ())))
        self.assertEqual(self.last("fun f(a, b) = a + b^2"), (1, (((2,), ()), ((1,), ())), ((2,), ())))
        self.assertEqual(self.last("fun f(a, b) = a^2 + b^3"), (1, (((3,), ()), ((2,), ())), ((6,), ())))
        self.assertEqual(self.last("unit m\nfun f(a) = a^2 + 4[m^6]"), (0, (((), (("m", 3),)),), ((), (("m", 6),))))
        self.assertEqual(self.last("unit m\nfun f(a, b) = a^2 + b^3 * 1[m]"),
                         (1, (((3,), (("m", 2),)), ((2,), METRE)), ((6,), (("m", 4),))))
        self.assertEqual(self.last("unit m\nfun f(a, b) = a * 1[m] + b^2"),
                         (1, (((2,), METRE), ((1,), METRE)), ((2,), (("m", 2),))))
        # Newton's way to a root.
        self.assertEqual(self.last("fun root(a, x) = loop x = x for 5 do (x + a / x) / 2"),
                         (1, (((2,), ()), ((1,), ())), ((1,), ())))

    def test_functions_called_with_other_units(self):
        rows = "unit m\nunit s\nfun f(a, b) = a^2 / b\n"
        self.assertEqual(self.last(rows + "show f(3[m], 2[s]) * f(1, 0 + 2[s^-1])"), (0, (), ((), (("m", 2),))))
        self.assertEqual(self.last(rows + "fun g(a) = f(a, a)"), (1, (((1,), ()),), ((1,), ())))
        self.assertEqual(self.last(rows + "fun g(a, b) = f(a, b) + f(b, a)"), (1, (((1,), ()), ((1,), ())), ((1,), ())))
        self.assertEqual(self.last(rows + "show f(0, 1[s])"), (1, (), ((2,), (("s", 1),))))
        self.assertEqual(self.last("unit m\ntake a [m]\nfun f(b) = a + b\nfun g(a) = f(a)"),
                         (0, (((), METRE),), ((), METRE)))

    def test_names_that_are_hidden(self):
        self.assertEqual(self.last("unit m\ntake a [m]\nfun f(a) = a^2"), (1, (((1,), ()),), ((2,), ())))
        self.assertEqual(self.last("unit m\ntake a [m]\nshow loop a = 1 for 2 do a * a"), (0, (), ((), ())))
        self.assertEqual(self.last("unit m\nfun f(m) = m + 1[m]"), (0, (((), METRE),), ((), METRE)))

    def test_units_of_rows_behind_are_let_be(self):
        self.assertEqual(self.kinds("fun f(a) = a^2 + 1\nunit m\nshow f(3)")[0], (0, (((), ()),), ((), ())))
        self.assertEqual(self.kinds("fun f(a) = a\nunit m\nshow f(3[m])")[2], (0, (), ((), METRE)))


class Open(Case):
    """[K4] by drawn programs: the most open kinds there are."""

    def test_what_was_drawn_is_let_by_and_comes_in_just_one_way(self):
        source = random.Random(81)
        frees = {}
        for turn in range(150):
            program, assumed = sound.program(source)
            names = names_of(program)
            for kind, units in zip(self.kinds(program), assumed):
                if kind is not None:
                    frees[kind[0]] = frees.get(kind[0], 0) + 1
                    wanted = [[dict(unit).get(name, 0) for name in names] for unit in units]
                    self.assertIsNotNone(met_by(rows_of(kind, names), kind[0], len(names), wanted))
        self.assertGreater(min(frees.get(free, 0) for free in (0, 1, 2, 3)), 10, frees)

    def test_sums_hold_by_just_what_comes_of_the_kind(self):
        """Of units near nought for params and result the sums hold where the kind's measures come to them."""
        source = random.Random(82)
        seen = {True: 0, False: 0}
        for turn in range(60):
            program = sound.program(source, depth=3)[0]
            kinds, names = kinds_of(program), names_of(program)
            for number, row in enumerate(program):
                if row[0] in ("let", "fun", "show"):
                    rows = rows_of(kinds[number], names)
                    sums = sums_of(program, kinds, number)
                    for put in (True, False):
                        found = [[source.randint(-3, 3) for name in names] for place in range(kinds[number][0])]
                        wanted = put_in(rows, kinds[number][0], len(names), found)
                        if not put and names:
                            wanted[source.randrange(len(wanted))][0] += source.choice([-1, 1])
                        self.assertEqual(self.holds(sums, len(names), wanted),
                                         met_by(rows, kinds[number][0], len(names), wanted) is not None)
                        seen[self.holds(sums, len(names), wanted)] += 1
        self.assertGreater(min(seen.values()), 100, seen)

    def holds(self, sums, names, wanted):
        """Whether the sums hold together with these units of the params and the result."""
        unknowns, rows, equations, places = sums
        more = [row[:unknowns] + [mine - own for mine, own in zip(row[unknowns:], exponents)]
                for row, exponents in zip(rows, wanted)]
        return solved(unknowns, names, equations + more)[0] == "solved"


class Clashes(Case):
    def clash(self, text, row, modulus=None):
        """Refused is a row with a clash that shows itself; parts, and what is left of their sum, are told."""
        program = read(text)
        refusal = self.refuse(text, Clash)
        self.assertEqual(refusal.row, row)
        if modulus is not None:
            self.assertEqual(refusal.modulus, modulus)
        self.ask_parts(program, refusal)
        return refusal.parts

    def ask_parts(self, program, refusal):
        row, parts, modulus = refusal.row, refusal.parts, refusal.modulus
        kinds = kinds_of(program[:row]) if row else []
        unknowns, rows, equations, places = sums_of(program, kinds, row)
        self.assertIs(parts.__class__, tuple)
        self.assertTrue(parts)
        self.assertTrue(modulus == 0 or modulus >= 2)
        order = [places.index(place) for place, factor in parts]
        self.assertEqual(order, sorted(set(order)))
        total = [0] * (unknowns + len(names_of(program)))
        for number, (place, factor) in zip(order, parts):
            self.assertEqual((factor.__class__, factor != 0), (int, True))
            total = [mine + factor * own for mine, own in zip(total, equations[number])]
        left = [number % modulus if modulus else number for number in total]
        self.assertEqual(left[:unknowns], [0] * unknowns)
        self.assertTrue(any(left[unknowns:]))

    def test_sums_choices_loops_and_calls(self):
        two = "unit m\nunit s\ntake a [m]\ntake b [s]\n"
        for text, place in (("show a + b", ((), 0)), ("let c = -(a - b)", ((0,), 0)),
                            ("show if a < b then 1 else 2", ((), 0)), ("show if 1 < 2 then a else b", ((), 1)),
                            ("show loop x = a for 3 do x * x", ((), 0)), ("show loop x = a for 0 do 1", ((), 0)),
                            ("fun f(x) = x^2 + (a + b)^2", ((1, 0), 0))):
            self.assertEqual([part[0] for part in self.clash(two + text, 4, 0)], [place])

    def test_of_several_equations(self):
        two = "unit m\nunit s\nfun f(x, y) = x + y\n"
        self.assertEqual(len(self.clash(two + "show f(1[m], 2[s])", 3, 0)), 2)
        self.assertEqual(len(self.clash(two + "fun g(x) = (x + 1[m]) * (x + 1[s])", 3, 0)), 2)
        self.assertEqual(len(self.clash(two + "show f(0, 1[m]) + f(0, 1[s])", 3, 0)), 3)

    def test_those_with_a_factor_of_nought_are_left_out(self):
        parts = self.clash("unit m\nfun f(x) = (x + 1[m]) * (2 + 3) * (x + 1)", 1, 0)
        self.assertEqual([part[0] for part in parts], [((0, 0), 0), ((1,), 0)])

    def test_with_a_modulus(self):
        self.assertEqual(self.clash("unit m\nfun f(x) = x^2 + 1[m]", 1, 2), ((((), 0), 1),))
        self.clash("unit m\nfun f(x, y) = x^2 + y^4 * 1[m]", 1, 2)
        self.clash("unit m\nfun f(x) = x^3 + 1[m^2]", 1, 3)
        self.clash("unit m\nshow 0^2 + 1[m^-3]", 1, 2)
        self.clash("unit m\nfun sq(x) = x^2\nfun f(x) = sq(sq(x)) + 1[m^2]", 2, 4)
        self.clash("unit m\nfun f(x, y, z) = (x^2 + y * 1[m]) * (y + z^2)", 1, 2)

    def test_of_two_wrong_rows_the_first_one(self):
        self.clash("unit m\nshow 1 + 2\nshow 3 + 4[m]\nshow 5[m] + 6", 2)
        self.clash("unit m\nfun f(x) = x^2 + 1[m]\nlet a = 1[m^9]^5\nlet b = a * a", 1)
        self.assertEqual(self.refuse("unit m\nlet a = 1[m^9]^5\nlet b = a * a\nshow 1 + 1[m]", Steep).row, 2)

    def test_drawn_ones(self):
        """A let by program, with one number's unit changed, is let by or shows why not."""
        source = random.Random(83)
        seen = {"let by": 0, "clash": 0}
        for turn in range(200):
            wrong = sound.spoilt(source, sound.program(source)[0])
            try:
                self.kinds(wrong)
                seen["let by"] += 1
            except Clash as refusal:
                self.ask_parts(wrong, refusal)
                seen["clash"] += 1
            except Steep as refusal:
                self.assertIn(refusal.row, range(len(wrong)))
        self.assertGreater(min(seen.values()), 30, seen)


class SteepOnes(Case):
    NINE = "unit m\nunit s\nlet a = 1[m^8]^4\nlet b = a * a\nlet c = 1 / b\n"

    def test_of_units(self):
        self.assertEqual(self.last(self.NINE + "show b"), (0, (), ((), (("m", 64),))))
        self.assertEqual(self.last(self.NINE + "show c"), (0, (), ((), (("m", -64),))))
        for text in ("show b * 1[m]", "let d = b * 1[m]", "show c / 1[m]", "let d = c * 1[m^-1]", "show b^2",
                     "show 1[s] * b * 1[m]", "fun f(x) = b * 1[m]", "fun f(x) = x + c / 1[m]",
                     "fun f(x, y) = if x < b * 1[m] then y else y"):
            self.assertEqual(self.refuse(self.NINE + text, Steep).row, 5)
        self.kinds(self.NINE + "show b * 1[m] * 1[m^-1]")
        self.kinds(self.NINE + "show b^5 / b^4")
        self.kinds(self.NINE + "show (b * b)^5 * 0")

    def test_of_open_ones(self):
        most = "fun f(x) = ((x^4)^4)^4"
        self.assertEqual(self.last(most), (1, (((1,), ()),), ((64,), ())))
        self.assertEqual(self.last(most + "\nfun g(x) = 1 / f(x)"), (1, (((1,), ()),), ((-64,), ())))
        for text in ("fun g(x) = f(x) * x", "fun g(x) = 1 / (f(x) * x)", "fun g(x) = f(f(x))"):
            self.assertEqual(self.refuse(most + "\n" + text, Steep).row, 1)
        self.assertEqual(self.last(most + "\nshow f(0)"), (1, (), ((64,), ())))
        self.assertEqual(self.refuse("show ((0^4)^4)^5", Steep).row, 0)
        # Noughts of a unit each, so that the normal form is open in one of the exponent 1.
        self.assertEqual(self.last(most + "\nshow f(0) * 0"), (1, (), ((1,), ())))

    def test_of_params(self):
        most = "fun f(x) = ((x^4)^4)^4\n"
        self.assertEqual(self.last(most + "fun g(x, y) = f(x) + y"), (1, (((1,), ()), ((64,), ())), ((64,), ())))
        self.assertEqual(self.refuse(most + "fun g(x, y) = if f(x) * x < y then 1 else 2", Steep).row, 1)

    def test_a_clash_comes_ahead_in_its_row(self):
        self.assertEqual(self.refuse(self.NINE + "show b * b + 1", Clash).row, 5)
        self.assertEqual(self.refuse(self.NINE + "show b * b + 0\nshow 1 + b", Steep).row, 5)
        self.assertEqual(self.refuse(self.NINE + "show 1 + b\nshow b * b", Clash).row, 5)


class Refused(Case):
    def test_what_is_no_program(self):
        for thing in no_numbers_no_texts() + ["", "show 1", 1, (("show",),), (("unit", "m"),) * 17]:
            with self.assertRaises(BadText) as refusal:
                kinds_of(thing)
            self.assertIsNone(refusal.exception.at)

    def test_names_ahead_of_all_else(self):
        wrong = "unit m\nshow 1 + 1[m]\nlet a = (1[m^9]^5)^5\n"
        self.assertEqual(vars(self.refuse(wrong + "show q", NoName)), {"row": 3, "name": "q"})
        self.assertEqual(vars(self.refuse(wrong + "unit m", Twice)), {"row": 3, "name": "m"})
        self.assertEqual(vars(self.refuse(wrong + "fun f(a) = a\nshow f(1, 2)", BadCount)), {"row": 4, "name": "f"})
        self.assertIsNone(self.refuse(read(wrong + "show 1") + (("show",),), BadText).at)


class Kept(Case):
    def test_told_lists_changed_behind(self):
        program = read("unit m\ntake a [m^2]\nfun f(x) = x^2 + a")
        before = kinds_of(program)
        told = kinds_of(program)
        told[1] = None
        told.append(5)
        self.assertEqual(kinds_of(program), before)

    def test_a_refusal_changes_no_later_answer(self):
        self.refuse("unit m\nshow 1 + 1[m]", Clash)
        self.assertEqual(self.kinds("unit m\nshow 1[m] + 1[m]"), [None, (0, (), ((), METRE))])


if __name__ == "__main__":
    unittest.main()
