"""[E2] units put in for open ones, and found again, and [A2] of them: measurewise.putting."""

import copy
import itertools
import random
import unittest

from measurewise.putting import met_by, put_in
from measurewise.solving import solved


def drawn_lists(source, count, length, size):
    return [[source.randint(-size, size) for place in range(length)] for turn in range(count)]


class PutIn(unittest.TestCase):
    def test_no_open_units(self):
        self.assertEqual(put_in([[3, -2], [0, 1]], 0, 2, []), [[3, -2], [0, 1]])

    def test_one_and_several(self):
        self.assertEqual(put_in([[2, 1]], 1, 1, [[5]]), [[11]])
        self.assertEqual(put_in([[1, 0, 4, 5], [0, 1, 0, 0], [2, -1, 1, 0]], 2, 2, [[1, 2], [3, 4]]),
                         [[5, 7], [3, 4], [0, 0]])
        self.assertEqual(put_in([[1, 1, 1, 0]], 3, 1, [[1], [2], [3]]), [[6]])

    def test_no_rows(self):
        self.assertEqual(put_in([], 0, 0, []), [])
        self.assertEqual(put_in([], 2, 1, [[1], [2]]), [])

    def test_no_names(self):
        self.assertEqual(put_in([[1, 2], [3, 4]], 2, 0, [[], []]), [[], []])
        self.assertEqual(put_in([[], []], 0, 0, []), [[], []])

    def test_six_names(self):
        self.assertEqual(put_in([[2, 1, 2, 3, 4, 5, 6]], 1, 6, [[0, 1, 0, -1, 0, 10 ** 50]]),
                         [[1, 4, 3, 2, 5, 6 + 2 * 10 ** 50]])

    def test_told_lists_are_the_askers_own(self):
        rows, found = [[0, 1, 2], [1, 0, 0]], [[4, 5]]
        before = copy.deepcopy((rows, found))
        told = put_in(rows, 1, 2, found)
        self.assertEqual(told, [[1, 2], [4, 5]])
        told[0][0] = 99
        told[1].append(3)
        self.assertEqual((rows, found), before)
        self.assertEqual(put_in(rows, 1, 2, found), [[1, 2], [4, 5]])
        plain = [[3, 4]]
        told = put_in(plain, 0, 2, [])
        told[0][0] = 99
        self.assertEqual(plain, [[3, 4]])
        first = put_in(rows, 1, 2, found)
        rows[0][0] = 7
        found[0][0] = 7
        self.assertEqual(first, [[1, 2], [4, 5]])

    def test_lists_for_no_names_are_each_its_own(self):
        told = put_in([[1], [1]], 1, 0, [[]])
        told[0].append(1)
        self.assertEqual(told, [[1], []])


class MetBy(unittest.TestCase):
    def test_no_open_units(self):
        self.assertEqual(met_by([[3, -2]], 0, 2, [[3, -2]]), [])
        self.assertIsNone(met_by([[3, -2]], 0, 2, [[3, 2]]))
        self.assertEqual(met_by([], 0, 0, []), [])

    def test_one_and_several(self):
        self.assertEqual(met_by([[2, 1]], 1, 1, [[11]]), [[5]])
        self.assertEqual(met_by([[1, 0, 4, 5], [0, 1, 0, 0], [2, -1, 1, 0]], 2, 2, [[5, 7], [3, 4], [0, 0]]),
                         [[1, 2], [3, 4]])

    def test_what_the_rows_do_not_come_to(self):
        self.assertIsNone(met_by([[2, 1]], 1, 1, [[10]]))
        self.assertIsNone(met_by([[1, 0], [1, 0]], 1, 1, [[3], [4]]))
        self.assertIsNone(met_by([[0, 0]], 1, 1, [[1]]))
        self.assertIsNone(met_by([[1, 0, 4, 5], [0, 1, 0, 0], [2, -1, 1, 0]], 2, 2, [[5, 7], [3, 4], [0, 1]]))
        self.assertIsNone(met_by([[2, 2, 0]], 2, 1, [[3]]))

    def test_no_names(self):
        self.assertEqual(met_by([[1, 2], [3, 4]], 2, 0, [[], []]), [[], []])
        self.assertEqual(met_by([[]], 0, 0, [[]]), [])

    def test_no_rows(self):
        self.assertEqual(met_by([], 0, 3, []), [])
        self.assertEqual([len(one) for one in met_by([], 2, 3, [])], [3, 3])

    def test_open_units_that_are_not_in_any_row(self):
        rows = [[0, 2, 1], [0, 4, 0]]
        found = met_by(rows, 2, 1, [[7], [12]])
        self.assertEqual(put_in(rows, 2, 1, found), [[7], [12]])
        self.assertEqual(found[1], [3])

    def test_of_what_put_in_tells(self):
        source = random.Random(51)
        for turn in range(300):
            free, names, count = source.randint(0, 4), source.randint(0, 6), source.randint(0, 5)
            rows = drawn_lists(source, count, free + names, 5)
            found = drawn_lists(source, free, names, 9)
            wanted = put_in(rows, free, names, found)
            self.assertEqual(put_in(rows, free, names, met_by(rows, free, names, wanted)), wanted)

    def test_none_where_none_do(self):
        source = random.Random(52)
        seen = {True: 0, False: 0}
        for turn in range(400):
            rows = drawn_lists(source, 2, 3, 2)
            wanted = drawn_lists(source, 2, 1, 2)
            told = met_by(rows, 2, 1, wanted)
            seen[told is None] += 1
            if told is None:
                for one, other in itertools.product(range(-8, 9), repeat=2):
                    self.assertNotEqual(put_in(rows, 2, 1, [[one], [other]]), wanted)
            else:
                self.assertEqual(put_in(rows, 2, 1, told), wanted)
        self.assertGreater(min(seen.values()), 50)

    def test_somewhat_beyond_the_bounds(self):
        rows = [[1, place] + [0] * 6 for place in range(250)]
        self.assertEqual(met_by(rows, 1, 7, put_in(rows, 1, 7, [[3] * 7])), [[3] * 7])

    def test_told_lists_are_the_askers_own(self):
        rows, wanted = [[1, 0, 2], [0, 1, 0]], [[5], [6]]
        before = copy.deepcopy((rows, wanted))
        told = met_by(rows, 2, 1, wanted)
        self.assertEqual(told, [[3], [6]])
        told[0][0] = 99
        told.append([1])
        self.assertEqual((rows, wanted), before)
        self.assertEqual(met_by(rows, 2, 1, wanted), [[3], [6]])
        first = met_by(rows, 2, 1, wanted)
        rows[0][0] = 7
        wanted[0][0] = 7
        self.assertEqual(first, [[3], [6]])


class OfSolutions(unittest.TestCase):
    def test_every_solution_comes_in_just_one_way(self):
        source = random.Random(53)
        asked = 0
        for turn in range(200):
            unknowns, names = source.randint(1, 3), source.randint(1, 2)
            point = drawn_lists(source, unknowns, names, 3)
            equations = drawn_lists(source, source.randint(0, 2), unknowns, 4)
            for equation in equations:
                equation += [-sum(number * own[name] for number, own in zip(equation, point)) for name in range(names)]
            word, free, rows = solved(unknowns, names, equations)
            self.assertEqual(word, "solved")
            for values in itertools.product(range(-3, 4), repeat=unknowns):
                wanted = [[value] + own[1:] for value, own in zip(values, point)]
                found = met_by(rows, free, names, wanted)
                holds = all(sum(number * value for number, value in zip(equation, values)) + equation[unknowns] == 0
                            for equation in equations)
                self.assertEqual(found is not None, holds)
                if holds:
                    asked += 1
                    self.assertEqual(put_in(rows, free, names, found), wanted)
            self.ask_one_way(source, rows, free, names)
        self.assertGreater(asked, 500)

    def ask_one_way(self, source, rows, free, names):
        """What is put in is found again: no other comes to the same."""
        for turn in range(5):
            found = drawn_lists(source, free, names, 9)
            self.assertEqual(met_by(rows, free, names, put_in(rows, free, names, found)), found)

    def test_whatever_is_put_in_fulfils_the_equations(self):
        source = random.Random(54)
        for turn in range(100):
            equations = drawn_lists(source, 2, 6, 3)
            told = solved(4, 2, equations)
            if told[0] == "solved":
                exponents = put_in(told[2], told[1], 2, drawn_lists(source, told[1], 2, 50))
                for equation in equations:
                    for name in range(2):
                        self.assertEqual(sum(number * own[name] for number, own in zip(equation, exponents))
                                         + equation[4 + name], 0)


if __name__ == "__main__":
    unittest.main()
