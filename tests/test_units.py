"""[G1], [G3], [G4] units and rates, and [A2] what is refused of them: measurewise.units."""

import copy
import fractions
import itertools
import random
import unittest

from measurewise.errors import BadRate, BadUnit
from measurewise.signs import is_text
from measurewise.units import is_unit, joined, measure_of, powered, read_unit, shown_unit, unit_of
from samples import no_numbers_no_texts, nested, Sullen

UNITS = ((), (("m", 1),), (("m", -1),), (("m", 1), ("s", -2)), (("a", 9), ("b", -9), ("zzzzzzzz", 1)),
         (("kg", 1), ("m", 2), ("s", -3)), (("a", 1), ("aa", 1), ("ab", 1), ("b", 1)))
NO_UNITS = (
    (("s", 1), ("m", 1)), (("m", 1), ("m", 1)), (("m", 1), ("m", -1)), (("ab", 1), ("aa", 1)), (("m", 0),),
    (("a", 1), ("m", 0)), (("m", True),), (("m", False),), (("m", 1.0),), (("m", "1"),), (("m", None),), (("m",),),
    (("m", 1, 1),), ("m", 1), ("m",), "m", "", [], [("m", 1)], (["m", 1],), (("m", 1), ["s", 1]), {"m": 1},
    (("unit", 1),), (("do", 1),), (("", 1),), (("M", 1),), (("m2", 1),), (("abcdefghi", 1),), ((1, "m"),),
    ((None, 1),), (("m", (1, 1)),), ((("m", 1),),), (Sullen(),), ((Sullen(), 1),), (("m", Sullen()),), 0, 1, (1, 1),
)


def drawn_unit(source, most=9):
    names = source.sample(["a", "b", "kg", "m", "s", "zzzzzzzz", "ab"], source.randint(0, 4))
    return tuple(sorted((name, source.choice([number for number in range(-most, most + 1) if number]))
                        for name in names))


class IsUnit(unittest.TestCase):
    def test_units(self):
        for thing in UNITS + ((("m", 10),), (("m", -10 ** 30), ("s", 10 ** 3999))):
            self.assertIs(is_unit(thing), True)

    def test_what_is_none(self):
        for place, thing in enumerate(NO_UNITS):
            with self.subTest(place=place):
                self.assertIs(is_unit(thing), False)

    def test_things_of_any_kind(self):
        for thing in no_numbers_no_texts():
            if isinstance(thing, tuple) and len(thing) == 0:
                continue
            self.assertIs(is_unit(thing), False)
            self.assertIs(is_unit((thing,)), False)
            self.assertIs(is_unit(((thing, 1),)), False)
            self.assertIs(is_unit((("m", thing),)), False)
        self.assertIs(is_unit(((),)), False)
        self.assertIs(is_unit((nested(99),)), False)


class UnitOf(unittest.TestCase):
    def test_any_order(self):
        for pairs in itertools.permutations([("m", 1), ("s", -2), ("kg", 3)]):
            self.assertEqual(unit_of(list(pairs)), (("kg", 3), ("m", 1), ("s", -2)))

    def test_names_more_than_once(self):
        self.assertEqual(unit_of([("m", 1), ("s", 1), ("m", 2), ("m", -1)]), (("m", 2), ("s", 1)))
        self.assertEqual(unit_of([("m", 1), ("m", 1)]), (("m", 2),))

    def test_sums_of_nought(self):
        self.assertEqual(unit_of([]), ())
        self.assertEqual(unit_of([("m", 0)]), ())
        self.assertEqual(unit_of([("m", 3), ("s", 1), ("m", -3)]), (("s", 1),))
        self.assertEqual(unit_of([("m", 3), ("m", -3), ("m", 1)]), (("m", 1),))

    def test_great_exponents(self):
        self.assertEqual(unit_of([("m", 10 ** 50), ("m", 1)]), (("m", 10 ** 50 + 1),))

    def test_drawn_ones(self):
        source = random.Random(5)
        for turn in range(200):
            pairs = [(source.choice("abc"), source.randint(-3, 3)) for count in range(source.randint(0, 8))]
            sums = {name: sum(exponent for other, exponent in pairs if other == name) for name in "abc"}
            unit = unit_of(pairs)
            self.assertEqual(unit, tuple((name, sums[name]) for name in "abc" if sums[name]))
            self.assertIs(is_unit(unit), True)

    def test_what_is_no_such_list(self):
        wrong = [(), (("m", 1),), {"m": 1}, "", "m", ["m"], [["m", 1]], [("m",)], [("m", 1, 1)], [("m", 1.0)],
                 [("m", True)], [("m", False)], [("m", None)], [("M", 1)], [("unit", 1)], [("", 1)], [(1, "m")],
                 [("m", 1), None], [("m", 1), ("s", "1")], [Sullen()], [("m", Sullen())], [(Sullen(), 1)], 0, 1]
        for place, thing in enumerate(wrong):
            with self.subTest(place=place), self.assertRaises(BadUnit):
                unit_of(thing)
        for thing in no_numbers_no_texts():
            if thing.__class__ is not list or len(thing) > 0:
                with self.assertRaises(BadUnit):
                    unit_of(thing)
            with self.assertRaises(BadUnit):
                unit_of([thing])

    def test_what_was_handed_in_is_as_it_was(self):
        pairs = [("s", 1), ("m", 2), ("s", -1)]
        unit = unit_of(pairs)
        self.assertEqual(pairs, [("s", 1), ("m", 2), ("s", -1)])
        pairs.append(("kg", 1))
        self.assertEqual(unit, (("m", 2),))


class JoinedAndPowered(unittest.TestCase):
    def test_joined(self):
        self.assertEqual(joined((("m", 1),), (("s", -1),)), (("m", 1), ("s", -1)))
        self.assertEqual(joined((("s", -1),), (("m", 1),)), (("m", 1), ("s", -1)))
        self.assertEqual(joined((("m", 1),), (("m", 2),)), (("m", 3),))
        self.assertEqual(joined((), (("m", 2),)), (("m", 2),))
        self.assertEqual(joined((("m", 2),), ()), (("m", 2),))
        self.assertEqual(joined((), ()), ())

    def test_joined_to_nought(self):
        self.assertEqual(joined((("m", 1), ("s", 2)), (("m", -1),)), (("s", 2),))
        self.assertEqual(joined((("m", 1), ("s", 2)), (("m", -1), ("s", -2))), ())

    def test_powered(self):
        self.assertEqual(powered((("m", 1), ("s", -2)), 3), (("m", 3), ("s", -6)))
        self.assertEqual(powered((("m", 1), ("s", -2)), -1), (("m", -1), ("s", 2)))
        self.assertEqual(powered((("m", 1), ("s", -2)), 1), (("m", 1), ("s", -2)))
        self.assertEqual(powered((("m", 1), ("s", -2)), 0), ())
        self.assertEqual(powered((), 5), ())
        self.assertEqual(powered((("m", 2),), 10 ** 40), (("m", 2 * 10 ** 40),))

    def test_drawn_ones(self):
        source = random.Random(6)
        for turn in range(200):
            one, other = drawn_unit(source), drawn_unit(source)
            self.assertIs(is_unit(joined(one, other)), True)
            self.assertEqual(joined(one, other), joined(other, one))
            self.assertEqual(joined(one, powered(one, -1)), ())
            self.assertEqual(powered(joined(one, other), 3), joined(powered(one, 3), powered(other, 3)))
            self.assertEqual(powered(one, 2), joined(one, one))


class ShownAndRead(unittest.TestCase):
    SHOWN = (((), ""), ((("m", 1),), "m"), ((("m", 2),), "m^2"), ((("m", -1),), "m^-1"),
             ((("m", 1), ("s", -2)), "m s^-2"), ((("kg", 1), ("m", 2), ("s", -3)), "kg m^2 s^-3"),
             ((("m", 9),), "m^9"), ((("m", -9),), "m^-9"), ((("a", -9), ("abcdefgh", 9)), "a^-9 abcdefgh^9"))

    def test_there_and_back(self):
        for unit, text in self.SHOWN:
            with self.subTest(text=text):
                self.assertEqual(shown_unit(unit), text)
                self.assertEqual(read_unit(text), unit)

    def test_all_exponents(self):
        for exponent in range(-9, 10):
            if exponent != 0:
                unit = (("m", exponent), ("s", -exponent))
                self.assertEqual(read_unit(shown_unit(unit)), unit)

    def test_drawn_ones_there_and_back_in_any_order(self):
        source = random.Random(7)
        for turn in range(200):
            unit = drawn_unit(source)
            words = shown_unit(unit).split(" ")
            source.shuffle(words)
            self.assertEqual(read_unit(" ".join(words)), unit)

    def test_words_in_any_order(self):
        for words in itertools.permutations(["m^2", "kg", "s^-3"]):
            self.assertEqual(read_unit(" ".join(words)), (("kg", 1), ("m", 2), ("s", -3)))

    def test_great_exponents_are_shown(self):
        self.assertEqual(shown_unit((("m", 10), ("s", -64))), "m^10 s^-64")
        self.assertEqual(shown_unit((("m", 10 ** 100),)), "m^1" + "0" * 100)

    def test_what_is_no_units_text(self):
        for text in ("m  s", " m", "m ", " ", "  ", "m s ", "m^1", "m^0", "m^-0", "m^", "m^-", "m^02", "m^-02", "m^00",
                     "m^01", "m m", "m m^-1", "m^2 s m^2", "m^2 m^-2", "unit", "do^2", "m if", "m^10", "m^-10", "m^99",
                     "m^+2", "m^2^2", "m^^2", "^2", "^", "M", "m2", "2", "1", "m^a", "m^2a", "m ^2", "m^ 2", "m^- 2",
                     "m^--2", "m,s", "m*s", "m/s", "m\ns", "m\n", "\n", "m\ts", "[m]", "m^2.0", "m^1:2", "-m",
                     "abcdefghi", "abcdefghi^2", "m_", "(m)"):
            with self.subTest(text=text), self.assertRaises(BadUnit):
                read_unit(text)

    def test_what_is_no_text(self):
        for thing in no_numbers_no_texts() + [0, 1, (("m", 1),), ["m"], ("m",), b"m"]:
            with self.assertRaises(BadUnit):
                read_unit(thing)

    def test_a_str_that_is_too_long_for_a_text(self):
        letters = "abcdefghijklmnop"
        words = ["q" + one + two + three + "zzzz" for one in letters for two in letters for three in letters]
        short = " ".join(words[:444])
        self.assertIs(is_text(short), True)
        self.assertEqual(len(read_unit(short)), 444)
        with self.assertRaises(BadUnit):
            read_unit(" ".join(words[:445]))


class Measures(unittest.TestCase):
    RATES = {"m": (1000, 1), "s": (1, 60), "kg": (3, 7)}

    def test_above_and_below_nought(self):
        self.assertEqual(measure_of((("m", 1),), self.RATES), (1000, 1))
        self.assertEqual(measure_of((("m", -1),), self.RATES), (1, 1000))
        self.assertEqual(measure_of((("m", 1), ("s", -2)), self.RATES), (3600000, 1))
        self.assertEqual(measure_of((("s", 3),), self.RATES), (1, 216000))
        self.assertEqual(measure_of((("kg", -2), ("s", 1)), self.RATES), (49, 540))

    def test_no_unit_at_all(self):
        self.assertEqual(measure_of((), self.RATES), (1, 1))
        self.assertEqual(measure_of((), {}), (1, 1))

    def test_further_names(self):
        self.assertEqual(measure_of((("m", 2),), {"a": (5, 1), "m": (3, 2), "z": (1, 9)}), (9, 4))

    def test_great_exponents(self):
        self.assertEqual(measure_of((("m", 1000),), {"m": (2, 3)}), (2 ** 1000, 3 ** 1000))
        self.assertEqual(measure_of((("m", -1000),), {"m": (2, 3)}), (3 ** 1000, 2 ** 1000))

    def test_drawn_ones(self):
        source = random.Random(8)
        for turn in range(200):
            unit = drawn_unit(source)
            rates = {}
            wanted = fractions.Fraction(1)
            for name, exponent in unit:
                rate = fractions.Fraction(source.randint(1, 60), source.randint(1, 60))
                rates[name] = (rate.numerator, rate.denominator)
                wanted *= rate ** exponent
            self.assertEqual(measure_of(unit, rates), (wanted.numerator, wanted.denominator))

    def test_what_are_no_rates(self):
        for thing in no_numbers_no_texts() + ["", "m", 0, 1, [("m", (1, 1))], (("m", (1, 1)),)]:
            if thing.__class__ is not dict or len(thing) > 0:
                for unit in ((), (("m", 1),)):
                    with self.assertRaises(BadRate):
                        measure_of(unit, thing)

    def test_a_key_that_is_no_name(self):
        for key in ("", "M", "unit", "abcdefghi", "m ", 0, None, True, ("m", 1), (), b"m", 1.5, frozenset()):
            for unit in ((), (("m", 1),)):
                with self.assertRaises(BadRate):
                    measure_of(unit, {"m": (1, 1), key: (1, 1)})

    def test_a_rate_that_is_none(self):
        wrong = no_numbers_no_texts() + [(0, 1), (-1, 1), (-3, 4), (2, 4), (0, 2), (1, 0), (1, -1), (3, True),
                                         (True, 1), [1, 2], "1:2", "1", 1, 2, (1, 2, 1), (1,), (1.0, 2)]
        for rate in wrong:
            for rates in ({"m": rate}, {"m": (1, 1), "s": rate}, {"s": rate, "m": (1, 1)}):
                for unit in ((("m", 1),), ()):
                    with self.assertRaises(BadRate):
                        measure_of(unit, rates)

    def test_a_name_without_a_rate(self):
        for rates in ({}, {"s": (1, 1)}, {"mm": (1, 1)}):
            with self.assertRaises(BadRate):
                measure_of((("m", 1),), rates)
        with self.assertRaises(BadRate):
            measure_of((("m", 1), ("s", 1)), {"m": (1, 1)})

    def test_what_was_handed_in_is_as_it_was(self):
        rates = {"s": (1, 60), "m": (3, 1)}
        before = copy.deepcopy(rates)
        measure_of((("m", 1), ("s", -2)), rates)
        with self.assertRaises(BadRate):
            measure_of((("kg", 1),), rates)
        self.assertEqual(rates, before)
        self.assertEqual(list(rates), ["s", "m"])


if __name__ == "__main__":
    unittest.main()
