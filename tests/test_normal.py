"""[E4] the normal form of rows, and [A2] of it: measurewise.normal."""

import copy
import random
import unittest

from measurewise.normal import normal
from measurewise.putting import met_by, put_in
from measurewise.solving import solved


def drawn_rows(source, count, length, size):
    return [[source.randint(-size, size) * source.choice([0, 1, 1]) for place in range(length)]
            for turn in range(count)]


def column_added(rows, to, of, times):
    """So many times one column added to another one."""
    return [row[:to] + [row[to] + times * row[of]] + row[to + 1:] for row in rows]


def changed(source, free, names, rows):
    """The same rows by other open units: some changes that can be undone, drawn one behind the other."""
    for turn in range(source.randint(1, 8)):
        if free == 0:
            return rows
        one, other = source.randrange(free), source.randrange(free)
        change = source.choice(["add", "exchange", "turn over", "name"])
        if change == "add" and one != other:
            rows = column_added(rows, one, other, source.randint(-3, 3))
        if change == "exchange":
            order = list(range(free + names))
            order[one], order[other] = other, one
            rows = [[row[place] for place in order] for row in rows]
        if change == "turn over":
            rows = column_added(rows, one, one, -2)
        if change == "name" and names:
            rows = column_added(rows, free + source.randrange(names), one, source.randint(-9, 9))
    return rows


class Case(unittest.TestCase):
    def ask(self, free, names, rows):
        """What is told is in the form that is asked for; both forms come of one another."""
        before = copy.deepcopy(rows)
        told = normal(free, names, rows)
        self.assertEqual(rows, before)
        self.assertEqual(normal(free, names, rows), told)
        self.assertEqual([part.__class__ for part in told], [int, list])
        self.assertIs(told.__class__, tuple)
        left, found = told
        self.assertEqual([(row.__class__, len(row)) for row in found], [(list, left + names)] * len(rows))
        self.ask_form(left, found)
        self.assertEqual(normal(left, names, found), told)
        self.ask_both_ways(free, names, rows, left, found)
        return told

    def ask_form(self, left, rows):
        pivots = [next(number for number, row in enumerate(rows) if row[place]) for place in range(left)]
        self.assertEqual(pivots, sorted(set(pivots)))
        for place, number in enumerate(pivots):
            pivot = rows[number][place]
            self.assertGreater(pivot, 0)
            self.assertEqual(rows[number][place + 1:left], [0] * (left - place - 1))
            for other in rows[number][:place] + rows[number][left:]:
                self.assertIn(other, range(pivot))

    def ask_both_ways(self, free, names, rows, left, found):
        """Whatever one form comes to by some putting in, the other one does, too."""
        source = random.Random(7)
        for turn in range(2):
            one = put_in(rows, free, names, [[source.randint(-5, 5) for name in range(names)] for place in range(free)])
            met = met_by(found, left, names, one)
            self.assertIsNotNone(met)
            self.assertEqual(put_in(found, left, names, met), one)
            own = [[source.randint(-5, 5) for name in range(names)] for place in range(left)]
            other = put_in(found, left, names, own)
            self.assertEqual(put_in(rows, free, names, met_by(rows, free, names, other)), other)
            # In just one way: no open unit of the normal form is made by the others.
            self.assertEqual(met_by(found, left, names, other), own)


class Small(Case):
    def test_no_rows(self):
        self.assertEqual(self.ask(0, 0, []), (0, []))
        self.assertEqual(self.ask(3, 2, []), (0, []))

    def test_no_open_units(self):
        self.assertEqual(self.ask(0, 2, [[3, -4], [0, 70]]), (0, [[3, -4], [0, 70]]))
        self.assertEqual(self.ask(0, 0, [[], []]), (0, [[], []]))

    def test_no_names(self):
        self.assertEqual(self.ask(1, 0, [[0], [-3], [2]]), (1, [[0], [3], [-2]]))
        self.assertEqual(self.ask(2, 0, [[4, 6]]), (1, [[2]]))

    def test_open_units_that_stand_in_no_row(self):
        self.assertEqual(self.ask(2, 1, [[0, 1, 5], [0, 2, 0]]), (1, [[1, 0], [2, -10]]))
        self.assertEqual(self.ask(2, 1, [[0, 0, 5]]), (0, [[5]]))
        self.assertEqual(self.ask(3, 1, [[1, 1, -1, 0], [2, 2, -2, 4]]), (1, [[1, 0], [2, 4]]))
        self.assertEqual(self.ask(2, 0, [[6, 4], [9, 6]]), (1, [[2], [3]]))

    def test_rows_of_noughts(self):
        self.assertEqual(self.ask(2, 2, [[0] * 4, [0] * 4]), (0, [[0, 0], [0, 0]]))
        self.assertEqual(self.ask(1, 1, [[0, 0], [1, 1], [0, 0]]), (1, [[0, 0], [1, 0], [0, 0]]))

    def test_a_number_above_nought(self):
        self.assertEqual(self.ask(1, 1, [[-1, 0], [5, 2]]), (1, [[1, 0], [-5, 2]]))
        self.assertEqual(self.ask(1, 1, [[-2, 0], [3, 2]]), (1, [[2, 0], [-3, 2]]))

    def test_names_are_lessened_at_pivots(self):
        self.assertEqual(self.ask(1, 2, [[2, 5, -1], [4, 0, 0]]), (1, [[2, 1, 1], [4, -8, 4]]))
        self.assertEqual(self.ask(1, 1, [[0, 9], [3, 3], [1, 0]]), (1, [[0, 9], [3, 0], [1, -1]]))

    def test_earlier_ones_are_lessened_at_pivots(self):
        self.assertEqual(self.ask(2, 0, [[1, 0], [7, 3]]), (2, [[1, 0], [1, 3]]))
        self.assertEqual(self.ask(2, 0, [[1, 0], [-1, 3]]), (2, [[1, 0], [2, 3]]))
        self.assertEqual(self.ask(3, 1, [[2, 0, 0, 1], [5, 4, 0, 7], [9, -9, 5, 12]])[0], 3)

    def test_later_ones_are_nought_at_pivots(self):
        self.assertEqual(self.ask(2, 0, [[1, 1], [0, 1]]), (2, [[1, 0], [0, 1]]))
        self.assertEqual(self.ask(2, 0, [[2, 3], [0, 0]]), (1, [[1], [0]]))
        self.assertEqual(self.ask(2, 0, [[2, 3], [1, 0]]), (2, [[1, 0], [2, 3]]))

    def test_pivots_in_rows_that_do_not_follow_one_another(self):
        self.assertEqual(self.ask(2, 1, [[0, 0, 3], [1, 0, 0], [4, 0, 1], [9, 2, 3]]),
                         (2, [[0, 0, 3], [1, 0, 0], [4, 0, 1], [1, 2, 1]]))

    def test_as_kinds_have_them(self):
        self.assertEqual(self.ask(2, 1, [[0, 3, 1], [1, 0, 0], [2, -3, 0]]), (2, [[3, 0, 1], [0, 1, 0], [-3, 2, 0]]))


class Drawn(Case):
    def test_the_form(self):
        source = random.Random(61)
        for turn in range(500):
            free, names, size = source.randint(0, 4), source.randint(0, 3), source.choice([1, 3, 12])
            self.ask(free, names, drawn_rows(source, source.randint(0, 5), free + names, size))

    def test_the_same_behind_changes_that_can_be_undone(self):
        source = random.Random(62)
        for turn in range(500):
            free, names, size = source.randint(0, 4), source.randint(0, 3), source.choice([1, 3, 12])
            rows = drawn_rows(source, source.randint(0, 5), free + names, size)
            told = normal(free, names, rows)
            other = changed(source, free, names, rows)
            self.assertEqual(normal(free, names, other), told)
            place = source.randint(0, free)
            more = [row[:place] + [0] + row[place:] for row in other]
            self.assertEqual(normal(free + 1, names, more), told)

    def test_other_rows_have_another_form(self):
        source = random.Random(63)
        other = 0
        for turn in range(200):
            rows = drawn_rows(source, 3, 3, 3)
            twice = column_added(rows, 0, 0, 1)
            if normal(2, 1, rows) != normal(2, 1, twice):
                other += 1
                wanted = put_in(rows, 2, 1, [[1], [0]])
                self.assertIsNone(met_by(twice, 2, 1, wanted))
        self.assertGreater(other, 100)

    def test_great_numbers(self):
        source = random.Random(64)
        for turn in range(20):
            self.ask(5, 2, drawn_rows(source, 5, 7, 10 ** 30))
        for free, count in ((30, 30), (40, 20), (20, 40)):
            rows = drawn_rows(source, count, free + 1, 10 ** 6)
            left, found = normal(free, 1, rows)
            self.ask_form(left, found)
            self.assertEqual(normal(free, 1, changed(source, free, 1, rows)), (left, found))

    def test_of_solutions(self):
        source = random.Random(65)
        for turn in range(100):
            equations = drawn_rows(source, 2, 6, 4)
            told = solved(5, 1, equations)
            if told[0] == "solved":
                self.ask(told[1], 1, told[2])
        free, rows = solved(240, 2, [])[1:]
        self.assertEqual(normal(free, 2, rows), (free, rows))


class Kept(Case):
    def test_told_lists_changed_behind(self):
        rows = [[1, 0, 2], [0, 1, 0]]
        told = normal(2, 1, rows)
        before = copy.deepcopy(told)
        told[1][0][0] = 9
        told[1][1].append(9)
        told[1].append([9])
        self.assertEqual(rows, [[1, 0, 2], [0, 1, 0]])
        self.assertEqual(normal(2, 1, rows), before)

    def test_lists_handed_in_changed_behind(self):
        for free in (0, 1):
            rows = [[1, 0], [0, 1]]
            told = normal(free, 2 - free, rows)
            before = copy.deepcopy(told)
            rows[0][0] = rows[1][1] = 9
            rows.append([9])
            self.assertEqual(told, before)

    def test_rows_are_lists_of_their_own(self):
        told = normal(0, 0, [[], []])
        told[1][0].append(1)
        self.assertEqual(told, (0, [[1], []]))
        row = [1, 2]
        told = normal(1, 1, [row, row])
        told[1][0][0] = 9
        self.assertEqual((row, told[1][1]), ([1, 2], [1, 0]))


if __name__ == "__main__":
    unittest.main()
