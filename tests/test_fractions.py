"""[G2] fractions, and [A2] what is refused of them: measurewise.fractions."""

import copy
import fractions
import math
import random
import unittest

from measurewise.errors import BadNumber
from measurewise.fractions import fraction, is_fraction, is_less, power_of, product_of, shown_fraction, sum_of
from samples import no_numbers_no_texts

GREAT = 10 ** 1999 + 7


def told(value):
    """What Python's own fractions tell, as a tuple."""
    value = fractions.Fraction(value)
    return (value.numerator, value.denominator)


def small_fractions():
    return [(above, below) for below in range(1, 8) for above in range(-8, 9) if math.gcd(above, below) == 1]


def drawn_fractions(count):
    """Fractions small and great, the same each time."""
    source = random.Random(2)
    sizes = (10, 1000, 10 ** 30, 10 ** 200)
    return [told(fractions.Fraction(source.randint(-size, size), source.randint(1, size)))
            for size in sizes for turn in range(count)]


class Told(unittest.TestCase):
    def ask(self, found, wanted):
        self.assertEqual(found, wanted)
        self.assertIs(is_fraction(found), True)
        for number in found:
            self.assertNotIsInstance(number, bool)


class Fraction(Told):
    def test_shortest(self):
        self.ask(fraction(3, 4), (3, 4))
        self.ask(fraction(6, 8), (3, 4))
        self.ask(fraction(8, 4), (2, 1))
        self.ask(fraction(4, 4), (1, 1))
        self.ask(fraction(1, 9), (1, 9))

    def test_without_a_below(self):
        for above in (0, 1, -1, 12, -12, GREAT):
            self.ask(fraction(above), (above, 1))

    def test_by_names(self):
        self.ask(fraction(above=10, below=4), (5, 2))

    def test_above_below_nought(self):
        self.ask(fraction(-3, 4), (-3, 4))
        self.ask(fraction(-6, 8), (-3, 4))
        self.ask(fraction(-8, 4), (-2, 1))
        self.ask(fraction(-1, 7), (-1, 7))

    def test_nought(self):
        for below in (1, 2, 5, 100, GREAT):
            self.ask(fraction(0, below), (0, 1))
        self.ask(fraction(0), (0, 1))

    def test_all_small_ones(self):
        for above in range(-40, 41):
            for below in range(1, 41):
                self.ask(fraction(above, below), told(fractions.Fraction(above, below)))

    def test_great_numbers(self):
        self.ask(fraction(GREAT * 6, GREAT * 8), (3, 4))
        self.ask(fraction(-GREAT * 10, 15), told(fractions.Fraction(-GREAT * 10, 15)))
        self.ask(fraction(GREAT, GREAT + 1), (GREAT, GREAT + 1))
        self.ask(fraction(10 ** 3999, 10 ** 3998), (10, 1))
        self.ask(fraction(1, 10 ** 3999), (1, 10 ** 3999))

    def test_many_steps(self):
        # Neighbours of this row need the most steps to be told shortest.
        one, other = 1, 1
        while other < 10 ** 3990:
            one, other = other, one + other
        self.ask(fraction(one, other), (one, other))
        self.ask(fraction(-other, one), (-other, one))

    def test_a_below_of_nought_or_less(self):
        for above in (0, 1, -1, 6):
            for below in (0, -1, -2, -GREAT):
                with self.assertRaises(BadNumber):
                    fraction(above, below)

    def test_what_is_no_whole_number(self):
        for thing in no_numbers_no_texts() + ["", "1", "1:2", (1, 2)]:
            with self.assertRaises(BadNumber):
                fraction(thing)
            with self.assertRaises(BadNumber):
                fraction(thing, 2)
            with self.assertRaises(BadNumber):
                fraction(1, thing)
            with self.assertRaises(BadNumber):
                fraction(thing, thing)


class IsFraction(unittest.TestCase):
    def test_fractions(self):
        for thing in [(0, 1), (1, 1), (-1, 1), (3, 4), (-3, 4), (7, 1), (1, 7), (GREAT, GREAT + 1), (-GREAT, 1)]:
            self.assertIs(is_fraction(thing), True)

    def test_all_small_pairs(self):
        for above in range(-20, 21):
            for below in range(-20, 21):
                with self.subTest(above=above, below=below):
                    self.assertIs(is_fraction((above, below)), below >= 1 and math.gcd(above, below) == 1)

    def test_such_that_are_not_shortest(self):
        for thing in [(2, 4), (-2, 4), (0, 2), (0, 7), (3, 3), (-3, 3), (GREAT * 2, GREAT * 3), (6, 2)]:
            self.assertIs(is_fraction(thing), False)

    def test_a_below_of_nought_or_less(self):
        for thing in [(1, 0), (0, 0), (1, -1), (-3, -4), (0, -1), (3, -GREAT)]:
            self.assertIs(is_fraction(thing), False)

    def test_true_and_false_are_no_numbers_here(self):
        for thing in [(True, 1), (1, True), (False, 1), (True, True), (3, False)]:
            self.assertIs(is_fraction(thing), False)

    def test_other_things(self):
        for thing in no_numbers_no_texts() + ["", "1:2", "12", 0, 1, -3, [3, 4], [0, 1], (3,), (1, 2, 1), ("3", "4"),
                                              ((3, 4), 1), (1, (1, 2)), ((3, 4), (1, 2)), ("3", 4), {3: 4, 5: 6}]:
            self.assertIs(is_fraction(thing), False)


class Sums(Told):
    def test_ordinary(self):
        self.ask(sum_of((1, 2), (1, 3)), (5, 6))
        self.ask(sum_of((1, 4), (1, 4)), (1, 2))
        self.ask(sum_of((1, 2), (1, 2)), (1, 1))
        self.ask(sum_of((3, 4), (-3, 4)), (0, 1))
        self.ask(sum_of((-1, 2), (-1, 3)), (-5, 6))
        self.ask(sum_of((0, 1), (-5, 7)), (-5, 7))
        self.ask(sum_of((0, 1), (0, 1)), (0, 1))

    def test_small_ones(self):
        for one in small_fractions():
            for other in small_fractions():
                self.ask(sum_of(one, other), told(fractions.Fraction(*one) + fractions.Fraction(*other)))

    def test_great_ones(self):
        drawn = drawn_fractions(20)
        for one, other in zip(drawn, reversed(drawn)):
            self.ask(sum_of(one, other), told(fractions.Fraction(*one) + fractions.Fraction(*other)))
        self.ask(sum_of((GREAT, 2), (-GREAT, 3)), told(fractions.Fraction(GREAT, 6)))


class Products(Told):
    def test_ordinary(self):
        self.ask(product_of((2, 3), (3, 4)), (1, 2))
        self.ask(product_of((2, 3), (3, 2)), (1, 1))
        self.ask(product_of((-2, 3), (5, 7)), (-10, 21))
        self.ask(product_of((-2, 3), (-5, 7)), (10, 21))
        self.ask(product_of((0, 1), (-5, 7)), (0, 1))
        self.ask(product_of((1, 1), (-5, 7)), (-5, 7))

    def test_small_ones(self):
        for one in small_fractions():
            for other in small_fractions():
                self.ask(product_of(one, other), told(fractions.Fraction(*one) * fractions.Fraction(*other)))

    def test_great_ones(self):
        drawn = drawn_fractions(20)
        for one, other in zip(drawn, reversed(drawn)):
            self.ask(product_of(one, other), told(fractions.Fraction(*one) * fractions.Fraction(*other)))
        self.ask(product_of((GREAT, 6), (6, GREAT)), (1, 1))


class Powers(Told):
    def test_above_nought(self):
        self.ask(power_of((2, 3), 1), (2, 3))
        self.ask(power_of((2, 3), 2), (4, 9))
        self.ask(power_of((-2, 3), 2), (4, 9))
        self.ask(power_of((-2, 3), 3), (-8, 27))
        self.ask(power_of((0, 1), 1), (0, 1))
        self.ask(power_of((0, 1), 1000), (0, 1))
        self.ask(power_of((-1, 1), 999), (-1, 1))

    def test_at_nought(self):
        for one in [(1, 1), (2, 3), (-2, 3), (GREAT, 2), (0, 1)]:
            self.ask(power_of(one, 0), (1, 1))

    def test_below_nought(self):
        self.ask(power_of((2, 3), -1), (3, 2))
        self.ask(power_of((-2, 3), -1), (-3, 2))
        self.ask(power_of((-2, 3), -2), (9, 4))
        self.ask(power_of((-2, 3), -3), (-27, 8))
        self.ask(power_of((5, 1), -2), (1, 25))
        self.ask(power_of((-5, 1), -1), (-1, 5))
        self.ask(power_of((1, 5), -2), (25, 1))
        self.ask(power_of((-1, 1), -1000), (1, 1))

    def test_small_ones(self):
        for one in small_fractions():
            for exponent in range(-12, 13):
                if one != (0, 1) or exponent >= 0:
                    self.ask(power_of(one, exponent), told(fractions.Fraction(*one) ** exponent))

    def test_great_ones(self):
        for exponent in (-1000, -999, -64, 64, 511, 512, 1000):
            self.ask(power_of((-7, 10), exponent), told(fractions.Fraction(-7, 10) ** exponent))
        self.ask(power_of((GREAT, 3), -2), (9, GREAT * GREAT))

    def test_nought_to_a_power_below_nought(self):
        for exponent in (-1, -2, -3, -1000):
            with self.assertRaises(BadNumber):
                power_of((0, 1), exponent)

    def test_an_exponent_that_is_no_whole_number(self):
        for one in [(0, 1), (1, 1), (2, 3), (-2, 3)]:
            for thing in no_numbers_no_texts() + ["", "1", (1, 1), (2, 1)]:
                with self.assertRaises(BadNumber):
                    power_of(one, thing)


class Less(unittest.TestCase):
    def test_ordinary(self):
        self.assertIs(is_less((1, 3), (1, 2)), True)
        self.assertIs(is_less((1, 2), (1, 3)), False)
        self.assertIs(is_less((-1, 2), (-1, 3)), True)
        self.assertIs(is_less((-1, 3), (-1, 2)), False)
        self.assertIs(is_less((-1, 2), (0, 1)), True)
        self.assertIs(is_less((0, 1), (-1, 2)), False)
        self.assertIs(is_less((2, 1), (5, 2)), True)

    def test_equals(self):
        for one in [(0, 1), (1, 2), (-1, 2), (GREAT, 3)]:
            self.assertIs(is_less(one, one), False)

    def test_small_ones(self):
        for one in small_fractions():
            for other in small_fractions():
                self.assertIs(is_less(one, other), fractions.Fraction(*one) < fractions.Fraction(*other))

    def test_great_ones(self):
        self.assertIs(is_less((GREAT, GREAT + 1), (GREAT + 1, GREAT + 2)), True)
        self.assertIs(is_less((GREAT + 1, GREAT + 2), (GREAT, GREAT + 1)), False)


class Shown(unittest.TestCase):
    def test_with_a_colon(self):
        self.assertEqual(shown_fraction((-3, 4)), "-3:4")
        self.assertEqual(shown_fraction((3, 4)), "3:4")
        self.assertEqual(shown_fraction((1, 10)), "1:10")
        self.assertEqual(shown_fraction((11, 10)), "11:10")

    def test_the_above_alone(self):
        self.assertEqual(shown_fraction((0, 1)), "0")
        self.assertEqual(shown_fraction((1, 1)), "1")
        self.assertEqual(shown_fraction((-12, 1)), "-12")

    def test_great_ones(self):
        self.assertEqual(shown_fraction((10 ** 3999, 1)), "1" + "0" * 3999)
        self.assertEqual(shown_fraction((-1, 10 ** 3999)), "-1:1" + "0" * 3999)


class HandedIn(unittest.TestCase):
    def test_nothing_handed_in_is_changed(self):
        for thing in ([], [3, 4], [[3], 4], {"a": [1]}, ([3], 4), [6, 8]):
            before = copy.deepcopy(thing)
            is_fraction(thing)
            with self.assertRaises(BadNumber):
                fraction(thing, thing)
            with self.assertRaises(BadNumber):
                fraction(3, thing)
            with self.assertRaises(BadNumber):
                power_of((3, 4), thing)
            self.assertEqual(thing, before)

    def test_a_refusal_changes_no_later_answer(self):
        with self.assertRaises(BadNumber):
            fraction(6, 0)
        with self.assertRaises(BadNumber):
            power_of((0, 1), -1)
        self.assertEqual(fraction(6), (6, 1))
        self.assertEqual(power_of((0, 1), 0), (1, 1))


if __name__ == "__main__":
    unittest.main()
