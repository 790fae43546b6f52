"""[E1], [E2], [E3] equations of exponents, and [A2] what is refused of them: measurewise.solving."""

import copy
import fractions
import itertools
import math
import random
import unittest

from measurewise.errors import BadNumber
from measurewise.solving import solved
from samples import no_numbers_no_texts


def rank_of(rows):
    """How many of the rows are none of the others, reckoned with Python's own fractions."""
    rows = [[fractions.Fraction(number) for number in row] for row in rows]
    rank = 0
    for column in range(len(rows[0]) if rows else 0):
        pivot = next((row for row in rows[rank:] if row[column]), None)
        if pivot is None:
            continue
        rows.remove(pivot)
        rows.insert(rank, pivot)
        for place in range(rank + 1, len(rows)):
            factor = rows[place][column] / pivot[column]
            if factor:
                rows[place] = [mine - factor * other for mine, other in zip(rows[place], pivot)]
        rank += 1
    return rank


def rank_by(rows, prime):
    """How many of the rows are none of the others by a prime."""
    left = [[number % prime for number in row] for row in rows]
    rank = 0
    for column in range(len(rows[0]) if rows else 0):
        pivot = next((row for row in left if row[column]), None)
        if pivot is not None:
            rank += 1
            left.remove(pivot)
            factors = [row[column] * pow(pivot[column], -1, prime) for row in left]
            left = [[(mine - factor * other) % prime for mine, other in zip(row, pivot)] if factor else row
                    for factor, row in zip(factors, left)]
    return rank


def drawn_equations(source, unknowns, names, count, size, holding):
    """Equations by chance; holding, where some exponents are to fulfil them."""
    found = [[source.randint(-4, 4) for name in range(names)] for unknown in range(unknowns)]
    equations = []
    for turn in range(count):
        numbers = [source.randint(-size, size) * source.choice([0, 1, 1]) for unknown in range(unknowns)]
        if holding:
            rest = [-sum(number * own[name] for number, own in zip(numbers, found)) for name in range(names)]
        else:
            rest = [source.randint(-size, size) * source.choice([0, 1]) for name in range(names)]
        equations.append(numbers + rest)
    return equations


class Case(unittest.TestCase):
    def ask(self, unknowns, names, equations):
        """What is told is as promised; True where the equations are solved."""
        before = copy.deepcopy(equations)
        told = solved(unknowns, names, equations)
        self.assertEqual(equations, before)
        self.assertEqual(solved(unknowns, names, equations), told)
        self.assertIs(told.__class__, tuple)
        if told[0] == "solved":
            self.ask_solution(unknowns, names, equations, told)
        else:
            self.ask_clash(unknowns, names, equations, told)
        return told[0] == "solved"

    def ask_solution(self, unknowns, names, equations, told):
        word, free, rows = told
        self.assertEqual((word, len(rows)), ("solved", unknowns))
        self.assertIs(rows.__class__, list)
        for row in rows:
            self.assertIs(row.__class__, list)
            self.assertEqual(len(row), free + names)
            for number in row:
                self.assertIs(number.__class__, int)
        for equation in equations:
            for place in range(free + names):
                own = equation[unknowns + place - free] if place >= free else 0
                self.assertEqual(sum(number * row[place] for number, row in zip(equation, rows)) + own, 0)
        # As many open units as there have to be, none of which is made by the others.
        self.assertEqual(free, unknowns - rank_of([equation[:unknowns] for equation in equations]))
        self.assertEqual(rank_of([row[:free] for row in rows]), free)
        # Were some left out that fulfil the equations, then by some prime they would be made by the others.
        for prime in (2, 3, 5, 7):
            self.assertEqual(rank_by([row[:free] for row in rows], prime), free)

    def ask_clash(self, unknowns, names, equations, told):
        word, factors, modulus = told
        self.assertEqual((word, len(factors)), ("clash", len(equations)))
        self.assertIs(factors.__class__, list)
        for number in factors + [modulus]:
            self.assertIs(number.__class__, int)
        self.assertTrue(modulus == 0 or modulus >= 2, modulus)
        total = [sum(factor * equation[place] for factor, equation in zip(factors, equations))
                 for place in range(unknowns + names)]
        left = [number % modulus if modulus else number for number in total]
        self.assertEqual(left[:unknowns], [0] * unknowns)
        self.assertTrue(any(left[unknowns:]))
        # No promise, but so they are easier to follow: no larger than they have to be.
        self.assertEqual(math.gcd(modulus, *factors), 1)
        self.assertTrue(modulus == 0 or all(-modulus < 2 * factor <= modulus for factor in factors))

    def clash(self, unknowns, names, equations):
        self.assertFalse(self.ask(unknowns, names, equations))
        return solved(unknowns, names, equations)[2]

    def solve(self, unknowns, names, equations):
        self.assertTrue(self.ask(unknowns, names, equations))
        return solved(unknowns, names, equations)


class Small(Case):
    def test_no_unknowns(self):
        self.assertEqual(self.solve(0, 0, []), ("solved", 0, []))
        self.assertEqual(self.solve(0, 0, [[], []]), ("solved", 0, []))
        self.assertEqual(self.solve(0, 2, [[0, 0]]), ("solved", 0, []))
        self.assertEqual(self.clash(0, 2, [[0, 3]]), 0)
        self.assertEqual(self.clash(0, 1, [[0], [-1]]), 0)

    def test_no_names(self):
        self.assertEqual(self.solve(1, 0, [[3]]), ("solved", 0, [[]]))
        self.assertEqual(self.solve(2, 0, [[2, -3]])[1], 1)
        self.assertEqual(self.solve(3, 0, [[0, 0, 0]])[1], 3)
        self.assertEqual(self.solve(2, 0, [[1, 1], [1, -1]])[1], 0)

    def test_no_equations(self):
        for unknowns in range(4):
            for names in range(3):
                self.assertEqual(self.solve(unknowns, names, [])[1], unknowns)

    def test_solved_by_no_open_units(self):
        self.assertEqual(self.solve(1, 1, [[1, -3]]), ("solved", 0, [[3]]))
        self.assertEqual(self.solve(1, 2, [[-2, 4, -6]]), ("solved", 0, [[2, -3]]))
        self.assertEqual(self.solve(2, 1, [[1, 1, -5], [1, -1, -1]]), ("solved", 0, [[3], [2]]))

    def test_solved_by_one_and_by_several(self):
        self.assertEqual(self.solve(2, 1, [[1, -1, 0]])[1], 1)
        self.assertEqual(self.solve(2, 1, [[2, -3, 1]])[1], 1)
        self.assertEqual(self.solve(3, 2, [[6, 10, 15, 1, 0]])[1], 2)
        self.assertEqual(self.solve(4, 1, [[2, 4, 0, 0, 6]])[1], 3)

    def test_clash_with_the_modulus_nought(self):
        self.assertEqual(self.clash(1, 1, [[0, 1]]), 0)
        self.assertEqual(self.clash(1, 1, [[1, 1], [1, 2]]), 0)
        self.assertEqual(self.clash(1, 1, [[2, -2], [1, 0]]), 0)
        self.assertEqual(self.clash(2, 2, [[1, 1, 0, 0], [1, -1, 0, 0], [1, 0, 0, 1]]), 0)
        self.assertEqual(self.clash(2, 1, [[2, 2, 2], [3, 3, 4]]), 0)

    def test_clash_with_a_modulus_from_two_on(self):
        self.assertGreaterEqual(self.clash(1, 1, [[2, 1]]), 2)
        self.assertGreaterEqual(self.clash(2, 1, [[2, 4, 1]]), 2)
        self.assertGreaterEqual(self.clash(1, 2, [[3, 3, 1]]), 2)
        self.assertGreaterEqual(self.clash(2, 1, [[2, 0, 0], [1, 4, 1]]), 2)
        self.assertGreaterEqual(self.clash(3, 1, [[1, 1, 0, 0], [0, 1, 1, 0], [1, 0, 1, 1]]), 2)
        self.assertGreaterEqual(self.clash(2, 1, [[10 ** 6, 0, 0], [1, 10 ** 6, 1]]), 2)

    def test_noughts_equals_and_sums_of_others(self):
        self.assertEqual(self.solve(2, 1, [[0, 0, 0], [1, 1, 1], [0, 0, 0]])[1], 1)
        self.assertEqual(self.solve(2, 1, [[1, 2, 3], [1, 2, 3], [-1, -2, -3]])[1], 1)
        self.assertEqual(self.solve(3, 1, [[1, 2, 3, -6], [2, 1, 0, -3], [3, 3, 3, -9], [-1, 1, 3, -3]])[1], 1)
        self.assertEqual(self.clash(3, 1, [[1, 2, 3, -6], [2, 1, 0, -3], [3, 3, 3, -8]]), 0)

    def test_all_that_fulfils_comes_so(self):
        """By hand: whatever exponents near nought fulfil the equations are told, in just one way."""
        source = random.Random(41)
        for turn in range(150):
            unknowns = source.randint(1, 3)
            equations = drawn_equations(source, unknowns, 1, source.randint(0, 2), 4, turn % 2 == 0)
            fulfilling = [point for point in itertools.product(range(-5, 6), repeat=unknowns)
                          if all(sum(number * own for number, own in zip(equation, point)) + equation[-1] == 0
                                 for equation in equations)]
            if not self.ask(unknowns, 1, equations):
                self.assertEqual(fulfilling, [])
                continue
            word, free, rows = solved(unknowns, 1, equations)
            self.assertEqual([point for point in fulfilling if not self.comes(point, free, rows)], [])

    def comes(self, point, free, rows):
        """Whether whole numbers for the open units make a point: the only ones that could are told by fractions."""
        table = [[fractions.Fraction(number) for number in row[:free] + [own - row[free]]]
                 for row, own in zip(rows, point)]
        for column in range(free):
            pivot = next(row for row in table[column:] if row[column])
            table.remove(pivot)
            table.insert(column, [number / pivot[column] for number in pivot])
            for place, row in enumerate(table):
                if place != column:
                    table[place] = [mine - row[column] * other for mine, other in zip(row, table[column])]
        return (all(row[free].denominator == 1 for row in table[:free])
                and not any(row[free] for row in table[free:]))


class Drawn(Case):
    def test_small_ones(self):
        source = random.Random(42)
        seen = {"solved": 0, "nought": 0, "modulus": 0}
        for turn in range(1500):
            unknowns, names = source.randint(0, 5), source.randint(0, 3)
            count, size = source.randint(0, 5), source.choice([1, 2, 6])
            equations = drawn_equations(source, unknowns, names, count, size, turn % 3 == 0)
            if self.ask(unknowns, names, equations):
                seen["solved"] += 1
            else:
                seen["modulus" if solved(unknowns, names, equations)[2] else "nought"] += 1
        self.assertGreater(min(seen.values()), 100, seen)

    def test_great_numbers(self):
        source = random.Random(43)
        for turn in range(60):
            unknowns, names = source.randint(1, 14), source.randint(1, 6)
            holding = turn % 2 == 0
            equations = drawn_equations(source, unknowns, names, source.randint(1, 14), 10 ** 6, holding)
            told = self.ask(unknowns, names, equations)
            self.assertTrue(told or not holding)

    def test_many_dense_equations(self):
        source = random.Random(44)
        for unknowns, count in ((40, 40), (60, 30), (30, 60), (40, 39)):
            holding = unknowns != 40
            equations = drawn_equations(source, unknowns, 2, count, 10 ** 6, holding)
            told = self.ask(unknowns, 2, equations)
            self.assertTrue(told or not holding)

    def test_numbers_beyond(self):
        self.assertTrue(self.ask(2, 1, [[10 ** 1000, 1 - 10 ** 1000, 7]]))
        self.assertFalse(self.ask(2, 1, [[10 ** 1000, 10 ** 999, 7]]))


class Bounds(Case):
    def test_a_chain_of_all_unknowns(self):
        chain = [[0] * place + [1, -1] + [0] * (238 - place) + [1] + [0] * 5 for place in range(239)]
        self.assertEqual(self.solve(240, 6, chain)[1], 1)
        ring = chain + [[-1] + [0] * 238 + [1] + [0] * 6]
        self.assertEqual(self.clash(240, 6, ring), 0)
        held = chain + [[-1] + [0] * 238 + [1] + [-239] + [0] * 5]
        self.assertEqual(self.solve(240, 6, held)[1], 1)

    def test_doubled_again_and_again(self):
        doubled = [[0] * place + [1, -2] + [0] * (238 - place) + [0] for place in range(239)]
        rows = self.solve(240, 1, doubled)[2]
        self.assertEqual(abs(rows[0][0]), 2 ** 239)
        self.assertGreaterEqual(self.clash(240, 1, doubled + [[1] + [0] * 239 + [1]]), 2)

    def test_sparse_ones(self):
        source = random.Random(45)
        for holding in (True, False):
            found = [source.randint(-3, 3) for unknown in range(240)]
            equations = []
            for count in range(240):
                numbers = [0] * 240
                for place in source.sample(range(240), 3):
                    numbers[place] = source.choice([-2, -1, 1, 2])
                rest = -sum(number * own for number, own in zip(numbers, found)) + (not holding and count == 239)
                equations.append(numbers + [rest])
            told = solved(240, 1, equations)
            self.assertTrue(told[0] == "solved" or not holding)
            if told[0] == "solved":
                self.ask_solution(240, 1, equations, told)
            else:
                self.ask_clash(240, 1, equations, told)

    def test_the_most_that_may_be(self):
        self.assertEqual(solved(240, 6, [[0] * 246] * 240)[1], 240)
        self.assertEqual(solved(0, 6, [[0] * 6] * 240), ("solved", 0, []))


class Kept(Case):
    def test_told_lists_changed_behind(self):
        equations = [[2, -3, 1, 0], [0, 0, 0, 0]]
        told = solved(2, 2, equations)
        before = copy.deepcopy(told)
        for row in told[2]:
            row.append(7)
            row[0] = 9
        told[2].append([1])
        self.assertEqual(solved(2, 2, equations), before)
        self.assertEqual(equations, [[2, -3, 1, 0], [0, 0, 0, 0]])
        clash = solved(1, 1, [[2, 1]])
        before = copy.deepcopy(clash)
        clash[1].append(1)
        self.assertEqual(solved(1, 1, [[2, 1]]), before)

    def test_lists_handed_in_changed_behind(self):
        equations = [[0, 0, 0], [1, -1, 2]]
        told = solved(2, 1, equations)
        before = copy.deepcopy(told)
        equations[0][0] = 5
        equations[1][2] = 5
        equations.append([1, 1, 1])
        self.assertEqual(told, before)
        wrong = [[0, 1]]
        clash = solved(1, 1, wrong)
        wrong[0][1] = 0
        self.assertEqual(clash, ("clash", [1], 0))

    def test_rows_are_lists_of_their_own(self):
        told = solved(3, 1, [])
        self.assertEqual(len({id(row) for row in told[2]}), 3)


class Refused(unittest.TestCase):
    def refuse(self, unknowns, names, equations):
        before = copy.copy(equations)
        with self.assertRaises(BadNumber):
            solved(unknowns, names, equations)
        if isinstance(equations, list):
            self.assertEqual(len(equations), len(before))

    def test_counts_that_are_none(self):
        for wrong in no_numbers_no_texts() + ["", "1", (1, 1), -1, -240, 241, 1000, 10 ** 3000]:
            self.refuse(wrong, 1, [])
        for wrong in no_numbers_no_texts() + ["", "1", (1, 1), -1, 7, 8, 10 ** 3000]:
            self.refuse(1, wrong, [])
        self.refuse(True, 0, [[1]])
        self.refuse(False, 1, [[1]])
        self.refuse(1, True, [[1, 1]])
        self.refuse(1, False, [[1]])

    def test_what_is_no_list_of_equations(self):
        for wrong in no_numbers_no_texts() + ["", "1", 0, 1, ([1, 1],), {0: [1, 1]}]:
            if wrong.__class__ is not list or len(wrong) > 0:
                self.refuse(1, 1, wrong)

    def test_too_many_equations(self):
        self.refuse(1, 1, [[0, 0]] * 241)
        self.refuse(0, 0, [[]] * 241)
        self.assertEqual(solved(0, 0, [[]] * 240), ("solved", 0, []))

    def test_an_equation_that_is_none(self):
        for wrong in no_numbers_no_texts() + ["", "11", 0, (1, 1), [1], [1, 1, 1], [], [1, 1.0], [1, True], [False, 1],
                                              [1, None], ["1", 1], [[1], 1], [(1, 1), 1], {0: 1, 1: 1}]:
            if wrong.__class__ is not list or [number.__class__ for number in wrong] != [int, int]:
                self.refuse(1, 1, [wrong])
                self.refuse(1, 1, [[1, 1], wrong])
                self.refuse(1, 1, [[0, 1], wrong, [1, 1]])

    def test_a_refusal_changes_no_later_answer(self):
        self.refuse(1, 1, [[1, 1], [1]])
        self.assertEqual(solved(1, 1, [[1, 1]]), ("solved", 0, [[-1]]))


if __name__ == "__main__":
    unittest.main()
