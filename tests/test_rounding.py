"""[N1] fractions shown with figures behind the point, and [A2] of it: measurewise.rounding."""

import decimal
import random
import unittest

from measurewise.errors import BadName, BadNumber
from measurewise.rounding import Away, Down, Even, Rounding, Up, way_of
from samples import no_numbers_no_texts

WAYS = {"ROUND_DOWN": (Down(), Rounding()), "ROUND_UP": (Up(),), "ROUND_HALF_UP": (Away(),),
        "ROUND_HALF_EVEN": (Even(),)}


def by_decimals(amount, figures, way):
    """The same by Python's own decimals, exact enough for all that is asked here."""
    with decimal.localcontext() as context:
        context.prec = 2000
        quotient = decimal.Decimal(amount[0]) / decimal.Decimal(amount[1])
        told = quotient.quantize(decimal.Decimal(1).scaleb(-figures), rounding=getattr(decimal, way))
        return f"{abs(told) if told == 0 else told:f}"


class Shown(unittest.TestCase):
    def ask(self, amount, figures, down, up, away, even):
        ways = ((Rounding(), down), (Down(), down), (Up(), up), (Away(), away), (Even(), even))
        for way, text in ways:
            for turn in range(2):
                self.assertEqual(way.shown(amount, figures), text, way)
            if amount[0] != 0:
                minus = "" if text.strip("0.") == "" else "-"
                self.assertEqual(way.shown((-amount[0], amount[1]), figures), minus + text)

    def test_no_figures(self):
        self.ask((5, 1), 0, "5", "5", "5", "5")
        self.ask((7, 3), 0, "2", "3", "2", "2")
        self.ask((8, 3), 0, "2", "3", "3", "3")
        self.ask((1, 1000), 0, "0", "1", "0", "0")
        self.ask((0, 1), 0, "0", "0", "0", "0")

    def test_one_figure(self):
        self.ask((5, 1), 1, "5.0", "5.0", "5.0", "5.0")
        self.ask((1, 3), 1, "0.3", "0.4", "0.3", "0.3")
        self.ask((2, 3), 1, "0.6", "0.7", "0.7", "0.7")
        self.ask((1, 100), 1, "0.0", "0.1", "0.0", "0.0")
        self.ask((99, 100), 1, "0.9", "1.0", "1.0", "1.0")
        self.ask((0, 1), 1, "0.0", "0.0", "0.0", "0.0")

    def test_just_a_half(self):
        self.ask((1, 2), 0, "0", "1", "1", "0")
        self.ask((3, 2), 0, "1", "2", "2", "2")
        self.ask((5, 2), 0, "2", "3", "3", "2")
        self.ask((7, 2), 0, "3", "4", "4", "4")
        self.ask((1, 4), 1, "0.2", "0.3", "0.3", "0.2")
        self.ask((3, 4), 1, "0.7", "0.8", "0.8", "0.8")
        self.ask((1, 20), 1, "0.0", "0.1", "0.1", "0.0")
        self.ask((199, 200), 2, "0.99", "1.00", "1.00", "1.00")

    def test_just_beside_a_half(self):
        self.ask((499, 1000), 0, "0", "1", "0", "0")
        self.ask((501, 1000), 0, "0", "1", "1", "1")
        self.ask((2501, 1000), 0, "2", "3", "3", "3")

    def test_nothing_left_out(self):
        self.ask((25, 2), 1, "12.5", "12.5", "12.5", "12.5")
        self.ask((1, 8), 3, "0.125", "0.125", "0.125", "0.125")
        self.ask((1, 8), 5, "0.12500", "0.12500", "0.12500", "0.12500")

    def test_forty_figures(self):
        self.ask((1, 3), 40, "0." + "3" * 40, "0." + "3" * 39 + "4", "0." + "3" * 40, "0." + "3" * 40)
        self.ask((10 ** 50, 1), 40, *["1" + "0" * 50 + "." + "0" * 40] * 4)
        self.ask((1, 2 * 10 ** 40), 40, "0." + "0" * 40, "0." + "0" * 39 + "1", "0." + "0" * 39 + "1", "0." + "0" * 40)

    def test_what_is_shown_as_nought_has_no_minus(self):
        for way in (Rounding(), Down(), Away(), Even()):
            self.assertEqual(way.shown((-1, 1000), 2), "0.00")
            self.assertEqual(way.shown((-1, 1000), 0), "0")
        self.assertEqual(Up().shown((-1, 1000), 2), "-0.01")
        self.assertEqual(Even().shown((-1, 2), 0), "0")
        self.assertEqual(Away().shown((-1, 2), 0), "-1")

    def test_by_decimals(self):
        source = random.Random(141)
        for turn in range(1500):
            below = source.choice([1, 2, 3, 4, 7, 8, 20, 64, 125, 1000, 10 ** 12 + 1])
            above = source.randint(-10 ** source.randint(1, 30), 10 ** source.randint(1, 30))
            divisor = next(number for number in range(below, 0, -1) if above % number == 0 and below % number == 0) \
                if below < 2000 else 1
            amount = (above // divisor, below // divisor)
            figures = source.choice([0, 0, 1, 2, 3, 17, 40])
            for way, objects in WAYS.items():
                for one in objects:
                    try:
                        told = one.shown(amount, figures)
                    except BadNumber:
                        self.assertEqual(below, 10 ** 12 + 1)
                    else:
                        self.assertEqual(told, by_decimals(amount, figures, way))

    def test_many_figures(self):
        self.assertEqual(Down().shown((10 ** 3999, 1), 40), "1" + "0" * 3999 + "." + "0" * 40)

    def test_refused(self):
        for way in (Rounding(), Down(), Up(), Away(), Even()):
            for thing in no_numbers_no_texts() + ["", "1", 5, (2, 4), (1, 0), (1, -1), (True, 1), [1, 1]]:
                with self.assertRaises(BadNumber):
                    way.shown(thing, 2)
                with self.assertRaises(BadNumber):
                    way.shown(thing, None)
            for thing in no_numbers_no_texts() + ["", "1", (1, 1), -1, 41, 10 ** 3000]:
                with self.assertRaises(BadNumber):
                    way.shown((1, 3), thing)
            self.assertEqual(way.shown((1, 1), 2), "1.00")


class Settled(unittest.TestCase):
    def test_each_way(self):
        for above, below, down, up, away, even in (
                (0, 1, 0, 0, 0, 0), (0, 7, 0, 0, 0, 0), (6, 3, 2, 2, 2, 2), (7, 3, 2, 3, 2, 2), (8, 3, 2, 3, 3, 3),
                (1, 2, 0, 1, 1, 0), (3, 2, 1, 2, 2, 2), (5, 2, 2, 3, 3, 2), (10, 4, 2, 3, 3, 2), (14, 4, 3, 4, 4, 4),
                (5, 1, 5, 5, 5, 5), (10 ** 60 + 1, 2, 5 * 10 ** 59, 5 * 10 ** 59 + 1, 5 * 10 ** 59 + 1, 5 * 10 ** 59)):
            ways = ((Rounding(), down), (Down(), down), (Up(), up), (Away(), away), (Even(), even))
            for way, whole in ways:
                told = way.settled(above, below)
                self.assertEqual((told, told.__class__), (whole, int), (way, above, below))


class WayOf(unittest.TestCase):
    def test_the_four_words(self):
        for word, kind in (("down", Down), ("up", Up), ("away", Away), ("even", Even)):
            self.assertIs(way_of(word).__class__, kind)
            self.assertTrue(isinstance(way_of(word), Rounding))
            self.assertTrue(issubclass(kind, Rounding))
        self.assertEqual(way_of("even").shown((5, 2), 0), "2")
        self.assertEqual(way_of("away").shown((5, 2), 0), "3")

    def test_what_is_none(self):
        for thing in no_numbers_no_texts() + ["", "Down", "downs", " up", "up ", "rounding", "evn", 1, ("up",), ["up"]]:
            with self.assertRaises(BadName):
                way_of(thing)


if __name__ == "__main__":
    unittest.main()
