"""[Q1], [Q2], [Q3] tables of units, and [A2] of them: measurewise.tables."""

import copy
import fractions
import random
import unittest

from measurewise.errors import BadName, BadNumber, BadTable, BadUnit, NoName, Twice, Unlike
from measurewise.tables import Table
from measurewise.units import joined, powered, unit_of
from samples import no_numbers_no_texts

M = (("m", 1),)
ONE = (1, 1)
WRONG_NAMES = no_numbers_no_texts() + ["", "M", "unit", "abcdefghi", "a1", 5, ("a",)]
WRONG_UNITS = no_numbers_no_texts() + ["", "m", 5, (("m", 0),), (("s", 1), ("m", 1)), (("M", 1),), [("m", 1)],
                                       (("m", True),), ("m", 1), (["m", 1],)]
WRONG_FRACTIONS = [thing for thing in no_numbers_no_texts()] + ["", "1", 5, (2, 4), (1, 0), (1, True), [1, 1]]


def no_units():
    return [thing for thing in WRONG_UNITS if not (isinstance(thing, tuple) and len(thing) == 0)]


class Case(unittest.TestCase):
    def setUp(self):
        self.table = Table()

    def refuse(self, kind, ask, *handed):
        """Refused is just so, and nothing is changed by it."""
        before = self.state()
        with self.assertRaises(kind) as refusal:
            ask(*handed)
        self.assertEqual(self.state(), before)
        return refusal.exception

    def state(self):
        return [(name, self.table.made_of(name)) for name in self.table.all_made()]

    def define(self, *handed):
        self.assertIsNone(self.table.define(*handed))


class Define(Case):
    def test_names_as_they_came(self):
        self.assertEqual(self.table.all_made(), [])
        self.define("km", (1000, 1), M)
        self.define("h", (3600, 1), (("s", 1),))
        self.define("are", (100, 1), (("m", 2),))
        self.assertEqual(self.table.all_made(), ["km", "h", "are"])
        self.assertEqual(self.table.made_of("km"), ((1000, 1), M))
        self.assertEqual(self.table.made_of("are"), ((100, 1), (("m", 2),)))

    def test_of_no_unit_and_of_made_ones(self):
        self.define("dozen", (12, 1), ())
        self.define("gross", (12, 1), (("dozen", 1),))
        self.assertEqual(self.table.made_of("gross"), ((12, 1), (("dozen", 1),)))
        self.assertEqual(self.table.plain((("gross", 1),)), ((144, 1), ()))

    def test_wrong_names(self):
        for thing in WRONG_NAMES:
            self.refuse(BadName, self.table.define, thing, (1, 1), M)
            self.refuse(BadName, self.table.define, thing, None, None)

    def test_wrong_amounts(self):
        for thing in WRONG_FRACTIONS + [(0, 1), (-1, 1), (-3, 4)]:
            self.refuse(BadNumber, self.table.define, "a", thing, M)
            self.refuse(BadNumber, self.table.define, "a", thing, None)

    def test_wrong_units(self):
        for thing in no_units():
            self.refuse(BadUnit, self.table.define, "a", (1, 1), thing)
        self.define("a", (1, 1), M)
        self.refuse(BadUnit, self.table.define, "a", (1, 1), "m")

    def test_twice(self):
        self.define("km", (1000, 1), M)
        refusal = self.refuse(Twice, self.table.define, "km", (1000, 1), M)
        self.assertEqual((refusal.row, refusal.name), (None, "km"))
        self.refuse(Twice, self.table.define, "km", (5, 1), (("km", 1),))
        self.refuse(Twice, self.table.define, "km", (5, 1), (("m", 65),))

    def test_names_that_lead_back_to_themselves(self):
        self.refuse(BadTable, self.table.define, "a", (1, 1), (("a", 1),))
        self.refuse(BadTable, self.table.define, "a", (1, 1), (("a", -2), ("m", 1)))
        self.define("a", (2, 1), (("b", 1),))
        self.refuse(BadTable, self.table.define, "b", (2, 1), (("a", 1),))
        self.refuse(BadTable, self.table.define, "b", (2, 1), (("c", 1),))
        self.refuse(BadTable, self.table.define, "b", (2, 1), ())
        self.define("d", (3, 1), (("a", 1),))
        self.refuse(BadTable, self.table.define, "b", (2, 1), (("d", 1),))
        self.table.drop("d")
        self.table.drop("a")
        self.define("b", (2, 1), (("c", 1),))
        self.define("a", (2, 1), (("b", 1),))
        self.assertEqual(self.table.plain((("a", 1),)), ((4, 1), (("c", 1),)))

    def test_twelve_and_a_thirteenth(self):
        for name in "abcdefghijkl":
            self.define(name, (2, 1), M)
        self.refuse(BadTable, self.table.define, "n", (2, 1), M)
        self.refuse(Twice, self.table.define, "a", (2, 1), M)
        self.table.drop("c")
        self.define("n", (2, 1), M)
        self.assertEqual(self.table.all_made(), list("abdefghijkln"))


class Bounds(Case):
    def test_exponents_of_64_and_65(self):
        for sign in (1, -1):
            self.define("a", (1, 1), (("m", 64 * sign),))
            self.assertEqual(self.table.plain((("m", 64 * sign),)), (ONE, (("m", 64 * sign),)))
            self.table.drop("a")
            self.refuse(BadTable, self.table.define, "a", (1, 1), (("m", 65 * sign),))
            self.refuse(BadTable, self.table.plain, (("m", 65 * sign),))
            self.refuse(BadTable, self.table.plain, (("m", 10 ** 3000 * sign),))

    def test_exponents_by_what_is_put_in(self):
        self.define("a", (1, 1), (("m", 8),))
        self.assertEqual(self.table.plain((("a", 8),)), (ONE, (("m", 64),)))
        self.assertEqual(self.table.plain((("a", -8),)), (ONE, (("m", -64),)))
        for unit in ((("a", 9),), (("a", 8), ("m", 1)), (("a", -8), ("m", -1)), (("a", 64),)):
            self.refuse(BadTable, self.table.plain, unit)
            self.refuse(BadTable, self.table.define, "b", (1, 1), unit)
        self.assertEqual(self.table.plain((("a", 9), ("m", -8))), (ONE, (("m", 64),)))
        self.define("b", (3, 1), (("a", 8),))
        self.refuse(BadTable, self.table.plain, (("b", 2),))
        self.assertEqual(self.table.plain((("a", -64), ("b", 8))), ((3 ** 8, 1), ()))

    def test_a_unit_handed_in_beyond_64_though_its_plain_is_not(self):
        self.define("a", (1, 1), ())
        self.assertEqual(self.table.plain((("a", 64),)), (ONE, ()))
        self.refuse(BadTable, self.table.plain, (("a", 65),))
        self.refuse(BadTable, self.table.define, "b", (1, 1), (("a", -65),))
        self.refuse(BadTable, self.table.into, (1, 1), (("a", 65),), ())
        self.refuse(BadTable, self.table.into, (1, 1), (), (("a", 65),))

    def test_figures_of_200_and_201(self):
        most = 10 ** 200 - 1
        self.define("a", (most, 1), M)
        self.define("b", (1, most), M)
        self.refuse(BadTable, self.table.define, "c", (10 ** 200, 1), M)
        self.refuse(BadTable, self.table.define, "c", (1, 10 ** 200), M)
        self.refuse(BadTable, self.table.define, "c", (10 ** 200, 10 ** 200 + 1), M)
        self.assertEqual(self.table.plain((("a", 1),)), ((most, 1), M))
        self.assertEqual(self.table.plain((("b", -1),)), ((most, 1), (("m", -1),)))
        for unit in ((("a", 2),), (("b", 2),), (("a", -2),), (("a", 1), ("b", -1)), (("a", 64), ("b", -64))):
            self.refuse(BadTable, self.table.plain, unit)
        self.assertEqual(self.table.plain((("a", 32), ("b", 32))), (ONE, (("m", 64),)))

    def test_figures_with_the_amount_and_of_the_unit_by_itself(self):
        self.define("a", (10 ** 199, 1), M)
        self.define("b", (9, 1), (("a", 1),))
        self.refuse(BadTable, self.table.define, "c", (10, 1), (("a", 1),))
        self.refuse(BadTable, self.table.define, "c", (2, 1), (("b", 1),))
        # With the amount it would be plain enough, but not the unit by itself.
        self.refuse(BadTable, self.table.define, "c", (1, 10 ** 199), (("a", 2),))
        self.define("c", (1, 10 ** 199), (("a", 1),))
        self.assertEqual(self.table.plain((("c", 5),)), (ONE, (("m", 5),)))

    def test_however_many_figures(self):
        for place, name in enumerate("abcdefghijkl"):
            amount = fractions.Fraction(10 ** 199 + 2 * place + 1, 10 ** 198 + 2 * place + 3)
            self.define(name, (amount.numerator, amount.denominator), M)
        self.refuse(BadTable, self.table.plain, tuple((name, 5) for name in "abcdefghijkl"))
        self.refuse(BadTable, self.table.plain, tuple((name, 64 - 128 * (place % 2))
                                                      for place, name in enumerate("abcdefghijkl")))
        for name in "abcdefghijkl":
            self.refuse(BadTable, self.table.plain, ((name, 64),))

    def test_what_cancels_has_few_figures(self):
        self.define("a", (10 ** 150, 7), M)
        self.define("b", (10 ** 149, 7), M)
        self.assertEqual(self.table.plain((("a", 64), ("b", -64))), ((10 ** 64, 1), ()))
        self.assertEqual(self.table.plain((("a", -64), ("b", 64))), ((1, 10 ** 64), ()))


class Drop(Case):
    def test_ordinary(self):
        self.define("km", (1000, 1), M)
        self.define("h", (3600, 1), (("s", 1),))
        self.assertIsNone(self.table.drop("km"))
        self.assertEqual(self.table.all_made(), ["h"])
        self.assertEqual(self.table.plain((("km", 1),)), (ONE, (("km", 1),)))
        self.define("km", (5, 1), ())
        self.assertEqual(self.table.all_made(), ["h", "km"])

    def test_refused(self):
        for thing in WRONG_NAMES:
            self.refuse(BadName, self.table.drop, thing)
        for name in ("m", "km"):
            self.assertEqual(vars(self.refuse(NoName, self.table.drop, name)), {"row": None, "name": name})
        self.define("km", (1000, 1), M)
        self.define("acre", (4, 1), (("km", 2),))
        self.refuse(BadTable, self.table.drop, "km")
        self.assertEqual(vars(self.refuse(NoName, self.table.drop, "m")), {"row": None, "name": "m"})
        self.table.drop("acre")
        self.table.drop("km")
        self.assertEqual(self.table.all_made(), [])


class MadeOf(Case):
    def test_refused(self):
        for thing in WRONG_NAMES:
            self.refuse(BadName, self.table.made_of, thing)
        self.assertEqual(vars(self.refuse(NoName, self.table.made_of, "km")), {"row": None, "name": "km"})
        self.define("km", (1000, 1), M)
        self.assertEqual(self.table.made_of("km"), ((1000, 1), M))
        self.assertEqual(vars(self.refuse(NoName, self.table.made_of, "m")), {"row": None, "name": "m"})


class Plain(Case):
    def test_base_names(self):
        self.assertEqual(self.table.plain(()), (ONE, ()))
        self.assertEqual(self.table.plain((("m", 2), ("s", -1))), (ONE, (("m", 2), ("s", -1))))

    def test_made_names(self):
        self.define("km", (1000, 1), M)
        self.define("min", (60, 1), (("s", 1),))
        self.define("h", (60, 1), (("min", 1),))
        self.define("knot", (463, 900), (("m", 1), ("s", -1)))
        self.assertEqual(self.table.plain((("km", 1),)), ((1000, 1), M))
        self.assertEqual(self.table.plain((("h", -1), ("km", 1))), ((5, 18), (("m", 1), ("s", -1))))
        self.assertEqual(self.table.plain((("h", 2), ("km", -1), ("q", 3))),
                         ((12960, 1), (("m", -1), ("q", 3), ("s", 2))))
        self.assertEqual(self.table.plain((("h", -1), ("km", 1), ("knot", -1))), ((250, 463), ()))

    def test_a_name_put_in_by_several(self):
        self.define("a", (2, 3), (("m", 1), ("s", 2)))
        self.define("b", (5, 1), (("a", 2), ("m", -1)))
        self.define("c", (1, 7), (("a", -1), ("b", 1), ("s", -4)))
        self.assertEqual(self.table.plain((("b", 1),)), ((20, 9), (("m", 1), ("s", 4))))
        self.assertEqual(self.table.plain((("c", 1),)), ((10, 21), (("s", -2),)))
        self.assertEqual(self.table.plain((("c", -2),)), ((441, 100), (("s", 4),)))

    def test_refused(self):
        for thing in no_units():
            self.refuse(BadUnit, self.table.plain, thing)

    def test_drawn_ones_against_another_way(self):
        source = random.Random(131)
        for turn in range(60):
            self.table = Table()
            told = {}
            for name in source.sample("abcdefghijkl", source.randint(1, 8)):
                amount = fractions.Fraction(source.randint(1, 60), source.randint(1, 60))
                unit = unit_of([(other, source.choice([-2, -1, 1, 2])) for other in
                                source.sample(sorted(told) + ["m", "s"], source.randint(0, 2))])
                try:
                    self.table.define(name, (amount.numerator, amount.denominator), unit)
                    told[name] = (amount, unit)
                except BadTable:
                    self.assertTrue(any(abs(exponent) > 64 for base, exponent in self.put_in(told, unit)[1]))
            unit = unit_of([(name, source.randint(-3, 3)) for name in sorted(told) + ["m"]])
            amount, found = self.put_in(told, unit)
            steep = any(abs(exponent) > 64 for base, exponent in found)
            if steep or max(amount.numerator, amount.denominator) >= 10 ** 200:
                self.refuse(BadTable, self.table.plain, unit)
            else:
                self.assertEqual(self.table.plain(unit), ((amount.numerator, amount.denominator), found))

    def put_in(self, told, unit):
        """Made names put in one by one, until there is none."""
        amount = fractions.Fraction(1)
        while any(name in told for name, exponent in unit):
            name, exponent = next(pair for pair in unit if pair[0] in told)
            amount *= told[name][0] ** exponent
            unit = joined(joined(unit, ((name, -exponent),)), powered(told[name][1], exponent))
        return amount, unit


class Into(Case):
    def setUp(self):
        Case.setUp(self)
        self.define("km", (1000, 1), M)
        self.define("h", (3600, 1), (("s", 1),))

    def test_like_units(self):
        self.assertEqual(self.table.into((36, 1), (("h", -1), ("km", 1)), (("m", 1), ("s", -1))), (10, 1))
        self.assertEqual(self.table.into((10, 1), (("m", 1), ("s", -1)), (("h", -1), ("km", 1))), (36, 1))
        self.assertEqual(self.table.into((-1, 2), (("km", 2),), (("m", 2),)), (-500000, 1))
        self.assertEqual(self.table.into((0, 1), M, (("km", 1),)), (0, 1))
        self.assertEqual(self.table.into((7, 3), (("q", 2),), (("q", 2),)), (7, 3))
        self.assertEqual(self.table.into((7, 3), (), ()), (7, 3))

    def test_unlike_units(self):
        refusal = self.refuse(Unlike, self.table.into, (1, 1), (("km", 1),), (("h", 1),))
        self.assertEqual((refusal.one, refusal.other), (M, (("s", 1),)))
        refusal = self.refuse(Unlike, self.table.into, (0, 1), (("km", 1),), (("km", 2),))
        self.assertEqual((refusal.one, refusal.other), (M, (("m", 2),)))
        refusal = self.refuse(Unlike, self.table.into, (0, 1), (), (("km", 1),))
        self.assertEqual((refusal.one, refusal.other), ((), M))

    def test_refused_in_this_order(self):
        for thing in WRONG_FRACTIONS:
            self.refuse(BadNumber, self.table.into, thing, "m", "m")
            self.refuse(BadNumber, self.table.into, thing, M, M)
        for thing in no_units():
            self.refuse(BadUnit, self.table.into, (1, 1), thing, (("m", 65),))
            self.refuse(BadUnit, self.table.into, (1, 1), M, thing)
            self.refuse(BadTable, self.table.into, (1, 1), (("m", 65),), thing)
        self.refuse(BadTable, self.table.into, (1, 1), M, (("m", 65),))
        self.refuse(BadTable, self.table.into, (1, 1), (("m", -65),), ())

    def test_there_and_back(self):
        there = self.table.into((22, 7), (("h", 3), ("km", -2)), (("m", -2), ("s", 3)))
        self.assertEqual(self.table.into(there, (("m", -2), ("s", 3)), (("h", 3), ("km", -2))), (22, 7))

    def test_amounts_of_many_figures(self):
        self.assertEqual(self.table.into((10 ** 500, 1), (("km", 1),), M), (10 ** 503, 1))


class Kept(Case):
    def test_told_lists_changed_behind(self):
        self.define("km", (1000, 1), M)
        told = self.table.all_made()
        told.append("m")
        told[0] = "q"
        self.assertEqual(self.table.all_made(), ["km"])

    def test_two_tables_know_nothing_of_each_other(self):
        other = Table()
        self.define("km", (1000, 1), M)
        self.assertEqual(other.all_made(), [])
        other.define("km", (5, 1), ())
        self.assertEqual(self.table.made_of("km"), ((1000, 1), M))
        other.drop("km")
        self.assertEqual(self.table.plain((("km", 1),)), ((1000, 1), M))

    def test_told_again_the_same(self):
        self.define("km", (1000, 1), M)
        before = copy.deepcopy(self.state())
        for turn in range(2):
            self.assertEqual(self.table.plain((("km", 2),)), ((10 ** 6, 1), (("m", 2),)))
        self.assertEqual(self.state(), before)


if __name__ == "__main__":
    unittest.main()
