"""[T1], [T2], [T3] measured in other units, [A1] and [A2] of it: measurewise.turning."""

import copy
import random
import unittest

import reckoned
import sound
from measurewise.errors import BadCount, BadNumber, BadRate, BadText, Clash, NoName, Steep, Twice
from measurewise.fractions import product_of
from measurewise.reading import read
from measurewise.running import run
from measurewise.scopes import need_program
from measurewise.turning import answers_turned, taken_turned, turned
from measurewise.writing import written
from samples import no_numbers_no_texts

RATES = {"m": (100, 1), "s": (1, 60)}
HEAD = "unit m\nunit s\n"


def over(rates):
    return {name: (rate[1], rate[0]) for name, rate in rates.items()}


def drawn_rates(source, program):
    amounts = [(1, 1), (2, 1), (1, 3), (100, 1), (7, 5), (1, 1000)]
    return {row[1]: source.choice(amounts) for row in program if row[0] == "unit"}


class Case(unittest.TestCase):
    def unchanged(self, ask, *handed):
        """What is told; it is told again, and what is handed in is as it was."""
        before = copy.deepcopy(handed)
        told = ask(*handed)
        self.assertEqual(ask(*handed), told)
        self.assertEqual(handed, before)
        return told

    def refuse(self, kind, ask, *handed):
        with self.assertRaises(kind) as refusal:
            ask(*handed)
        return refusal.exception


class Turned(Case):
    def ask(self, text, expected, rates=None):
        told = self.unchanged(turned, read(HEAD + text), RATES if rates is None else rates)
        need_program(told)
        self.assertEqual(written(told), HEAD + expected)

    def test_numbers_of_several_units(self):
        self.ask("show 3[m]", "show 300[m]")
        self.ask("show 3[s]", "show 1:20[s]")
        self.ask("show 3[m s^-1] + 1:2[m^2]", "show 18000[m s^-1] + 5000[m^2]")
        self.ask("show 3[m^-1 s^-2]", "show 108[m^-1 s^-2]")

    def test_numbers_without(self):
        self.ask("show 3 * 3[] + 0 - 0[]", "show 3 * 3 + 0 - 0[]")
        self.ask("show 0[m] + 0 + 0:7", "show 0[m] + 0 + 0")

    def test_in_rows_and_expressions_of_all_sorts(self):
        self.ask("take a [m]\nlet b = -1[m]^-3\nfun f(m, s) = if m < 1[m] then 2[m] else "
                 "loop x = 3[m] for 4 do 5[m] / 1",
                 "take a [m]\nlet b = -100[m]^-3\nfun f(m, s) = if m < 100[m] then 200[m] else "
                 "loop x = 300[m] for 4 do 500[m] / 1")
        self.ask("fun f(x, y, z) = x * y * z\nshow f(1[m], 2, 3[s])", "fun f(x, y, z) = x * y * z\n"
                 "show f(100[m], 2, 1:20[s])")

    def test_further_rates_are_let_be(self):
        self.ask("show 3[m]", "show 300[m]", {"q": (7, 1), **RATES, "abcdefgh": (1, 9)})
        self.assertEqual(turned(read("show 3"), {}), read("show 3"))

    def test_programs_that_have_no_kinds(self):
        self.ask("show 1[m] + 1[s]", "show 100[m] + 1:60[s]")

    def test_new_amounts_may_have_more_figures(self):
        program = read("unit m\nshow 999999999[m^9]")
        told = turned(program, {"m": (10 ** 30, 1)})
        self.assertEqual(told[1][1][1], (999999999 * 10 ** 270, 1))

    def test_there_and_back_and_twice(self):
        source = random.Random(111)
        for turn in range(150):
            program = sound.program(source)[0]
            one, other = drawn_rates(source, program), drawn_rates(source, program)
            both = {name: product_of(one[name], other[name]) for name in one}
            there = self.unchanged(turned, program, one)
            need_program(there)
            self.assertEqual(turned(there, over(one)), program)
            self.assertEqual(turned(there, other), turned(program, both))


class Taken(Case):
    PROGRAM = read(HEAD + "take a [m]\ntake b [m s^-1]\ntake c []\nshow a")
    NUMBERS = {"a": (3, 1), "b": (-1, 2), "c": (5, 7)}

    def test_by_the_takes_units(self):
        told = self.unchanged(taken_turned, self.PROGRAM, RATES, self.NUMBERS)
        self.assertEqual(told, {"a": (300, 1), "b": (-3000, 1), "c": (5, 7)})
        self.assertIs(told.__class__, dict)

    def test_further_names_stay_as_they_are(self):
        more = {"d": (1, 2), "m": (1, 1), 5: None, None: [1, (2, 4)], ("a",): {"a": (1, 1)}, "A": "text"}
        told = self.unchanged(taken_turned, self.PROGRAM, RATES, {**self.NUMBERS, **more})
        self.assertEqual({key: told[key] for key in more}, more)
        self.assertEqual(told["a"], (300, 1))

    def test_a_new_dict(self):
        for text, taken in (("show 1", {}), ("take a []\nshow a", {"a": (1, 1), "q": [1]})):
            told = taken_turned(read(text), {}, taken)
            self.assertEqual(told, taken)
            self.assertIsNot(told, taken)
            before = copy.deepcopy(taken)
            told["a"] = told["z"] = (9, 1)
            self.assertEqual(taken, before)
            self.assertEqual(taken_turned(read(text), {}, taken), before)

    def test_what_is_told_is_the_askers_own(self):
        taken = {**self.NUMBERS, "q": [1, [2]], "r": ({"k": [3]},)}
        before = copy.deepcopy(taken)
        told = taken_turned(self.PROGRAM, RATES, taken)
        told["q"][1].append(9)
        told["r"][0]["k"].append(9)
        self.assertEqual(taken, before)
        told = taken_turned(self.PROGRAM, RATES, taken)
        taken["q"].append(9)
        taken["a"] = None
        self.assertEqual((told["q"], told["a"]), ([1, [2]], (300, 1)))

    def test_refused(self):
        self.assertEqual(vars(self.refuse(NoName, taken_turned, self.PROGRAM, RATES, {})), {"row": None, "name": "a"})
        self.assertEqual(self.refuse(NoName, taken_turned, self.PROGRAM, RATES, {"a": (1, 1), "c": 1}).name, "b")
        for thing in no_numbers_no_texts() + [1, "1", (2, 4), [1, 1]]:
            self.refuse(BadNumber, taken_turned, self.PROGRAM, RATES, {**self.NUMBERS, "b": thing})
        self.refuse(BadNumber, taken_turned, self.PROGRAM, RATES, {"a": 1})

    def test_behind_the_rates(self):
        self.refuse(BadRate, taken_turned, self.PROGRAM, {"m": (1, 1)}, {})
        self.refuse(BadRate, taken_turned, self.PROGRAM, {}, {"a": 1})
        self.refuse(BadRate, taken_turned, self.PROGRAM, None, {"a": 1})


class Answers(Case):
    PROGRAM = read(HEAD + "take a [m]\nshow a * a\nlet z = 0\nshow z\nfun f(x) = x\nshow f(1) / 1[s]\nshow 3\n"
                   "show 0 * a")

    def test_by_the_kinds(self):
        told = self.unchanged(answers_turned, self.PROGRAM, RATES, ((9, 1), (0, 1), (1, 2), (3, 1), (0, 1)))
        self.assertEqual(told, ((90000, 1), (0, 1), (30, 1), (3, 1), (0, 1)))
        self.assertIs(told.__class__, tuple)

    def test_below_nought(self):
        self.assertEqual(answers_turned(self.PROGRAM, RATES, ((-9, 1),)), ((-90000, 1),))

    def test_fewer_answers_than_shows(self):
        self.assertEqual(answers_turned(self.PROGRAM, RATES, ()), ())
        self.assertEqual(answers_turned(self.PROGRAM, RATES, ((1, 9), (0, 1))), ((10000, 9), (0, 1)))

    def test_open_ones_stay_nought(self):
        program = read("unit m\nshow 0\nshow 0 * 3[m]\nshow 0^2 * 1[m]\nshow loop x = 0 for 3 do x * 2")
        told = run(program, {})[1]
        self.assertEqual(told, ((0, 1),) * 4)
        self.assertEqual(answers_turned(program, {"m": (7, 2)}, told), told)

    def test_more_answers_than_shows(self):
        self.refuse(BadNumber, answers_turned, self.PROGRAM, RATES, ((0, 1),) * 6)
        self.refuse(BadNumber, answers_turned, read("let a = 1"), {}, ((0, 1),))

    def test_what_is_no_fraction(self):
        for thing in no_numbers_no_texts() + [1, "1", (2, 4), [1, 1]]:
            self.refuse(BadNumber, answers_turned, self.PROGRAM, RATES, (thing,))
            self.refuse(BadNumber, answers_turned, self.PROGRAM, RATES, ((1, 1), (0, 1), thing))

    def test_kinds_ahead_of_rates(self):
        for rates in (None, {}, RATES):
            self.assertEqual(self.refuse(Clash, answers_turned, read("unit m\nshow 1 + 1[m]"), rates, (1,)).row, 1)
            self.assertEqual(self.refuse(Steep, answers_turned, read("unit m\nshow (1[m^9]^5)^2"), rates, (1,)).row, 1)
        self.refuse(BadRate, answers_turned, self.PROGRAM, {"m": (1, 1)}, (1,) * 9)
        self.refuse(BadRate, answers_turned, self.PROGRAM, 5, (1,) * 9)


class Rates(Case):
    """[T1]: what are no rates, of all three."""

    PROGRAM = read(HEAD + "take a [m]\nshow a")

    def each(self, rates, program=None):
        program = self.PROGRAM if program is None else program
        return ((turned, program, rates), (taken_turned, program, rates, {"a": (1, 1)}),
                (answers_turned, program, rates, ((1, 1),)))

    def test_no_dict(self):
        for thing in no_numbers_no_texts() + [1, "m", [("m", (1, 1)), ("s", (1, 1))], (("m", (1, 1)),)]:
            for handed in self.each(thing):
                self.refuse(BadRate, *handed)

    def test_a_key_that_is_no_name(self):
        for key in ("", "M", "unit", "abcdefghi", 5, None, True, ("m",), 1.5, "m s"):
            for handed in self.each({**RATES, key: (1, 1)}):
                self.refuse(BadRate, *handed)

    def test_a_rate_that_is_no_fraction_above_nought(self):
        for thing in no_numbers_no_texts() + [1, 5, "1", (0, 1), (-1, 1), (2, 4), (1, 0), [1, 1]]:
            for name in ("m", "s", "q"):
                for handed in self.each({**RATES, name: thing}):
                    self.refuse(BadRate, *handed)

    def test_a_unit_without_one(self):
        for name in ("m", "s"):
            for handed in self.each({key: rate for key, rate in RATES.items() if key != name}):
                self.refuse(BadRate, *handed)
        for handed in self.each({}, read("take a []\nshow a\nunit m")):
            self.refuse(BadRate, *handed)

    def test_the_program_ahead_of_them(self):
        for rates in (None, {}, {"m": 1}, RATES):
            for thing in no_numbers_no_texts() + [1, (), (("show",),)]:
                for ask in (turned, lambda *two: taken_turned(*two, {}), lambda *two: answers_turned(*two, ())):
                    self.assertIsNone(self.refuse(BadText, ask, thing, rates).at)
            for handed in self.each(rates, read("unit m\nshow q")):
                self.assertEqual(vars(self.refuse(NoName, *handed)), {"row": 1, "name": "q"})
            for handed in self.each(rates, read("unit m\nunit m")):
                self.assertEqual(vars(self.refuse(Twice, *handed)), {"row": 1, "name": "m"})
            for handed in self.each(rates, read("fun f(x) = x\nshow f(1, 2)")):
                self.assertEqual(vars(self.refuse(BadCount, *handed)), {"row": 1, "name": "f"})


class Runs(Case):
    """[T3], [A1]: what is run turned is what is run, turned."""

    def ask(self, program, taken, rates):
        plain = run(program, taken)
        other = run(turned(program, rates), taken_turned(program, rates, taken))
        answers = answers_turned(program, rates, plain[-1])
        if "great" in (plain[-2], other[-2]):
            fewer = min(len(answers), len(other[-1]))
            self.assertEqual(answers[:fewer], other[-1][:fewer])
            return "great"
        self.assertEqual(other, plain[:-1] + (answers,))
        return plain[0]

    def test_by_hand(self):
        program = read(HEAD + "take way [m]\ntake time [s]\nlet speed = way / time\nshow speed\nshow speed^2 / 2[m]\n"
                       "show if speed < 3[m s^-1] then 0 else way\nshow way / (time - 2[s])")
        for time in ((2, 1), (3, 1), (-5, 2)):
            self.ask(program, {"way": (7, 1), "time": time}, RATES)
        self.assertEqual(run(turned(program, RATES), {"way": (700, 1), "time": (1, 20)})[1][0], (14000, 1))

    def test_drawn_ones(self):
        source = random.Random(112)
        seen = {"shown": 0, "refused": 0, "great": 0}
        for turn in range(400):
            program = sound.program(source)[0]
            seen[self.ask(program, reckoned.drawn_taken(source, program), drawn_rates(source, program))] += 1
        self.assertGreater(min(seen["shown"], seen["refused"]), 50, seen)
        self.assertGreater(seen["great"], 3, seen)


if __name__ == "__main__":
    unittest.main()
