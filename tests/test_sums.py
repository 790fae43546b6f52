"""[K2], [K3] the sums of rows, and [A2] of them: measurewise.sums."""

import copy
import random
import unittest

import sound
from measurewise.kinds import kinds_of
from measurewise.reading import read
from measurewise.sums import sums_of


def kids_of(told):
    if told[0] == "call":
        return list(told[2])
    return [part for part in told[1:] if isinstance(part, tuple) and part and isinstance(part[0], str)]


class Weigher:
    """Another way to the sums: every unknown and every name weighs something drawn, and so does every node.

    Weighed is what each equation then comes to, by the order and the places that are asked for.
    """

    def __init__(self, source, program, kinds, number):
        self.kinds = {row[1]: kind for row, kind in zip(program[:number], kinds) if row[0] != "show"}
        self.names = {row[1]: source.randint(1, 10 ** 30) for row in program if row[0] == "unit"}
        self.source, self.unknowns, self.weighed, self.places = source, [], [], []
        row = program[number]
        params = row[2] if row[0] == "fun" else ()
        self.rows = [self.fresh() for param in params]
        self.rows.append(self.weigh(row[-1], (), dict(zip(params, self.rows))))

    def fresh(self):
        self.unknowns.append(self.source.randint(1, 10 ** 30))
        return self.unknowns[-1]

    def by(self, measure, opened):
        return (sum(exponent * own for exponent, own in zip(measure[0], opened))
                + sum(exponent * self.names[name] for name, exponent in measure[1]))

    def note(self, way, *differences):
        for which, difference in enumerate(differences):
            self.weighed.append(difference)
            self.places.append((way, which))

    def weigh(self, told, way, inner):
        word = told[0]
        if word == "number":
            return self.fresh() if told[2] is None else self.by(((), told[2]), ())
        if word == "name" and told[1] in inner:
            return inner[told[1]]
        kind = self.kinds[told[1]] if word in ("name", "call") else (0, (), ())
        opened = [self.fresh() for place in range(kind[0])]
        if word == "name":
            return self.by(kind[2], opened)
        kids = []
        for place, kid in enumerate(kids_of(told) if word != "loop" else [told[2], told[4]]):
            scene = {**inner, told[1]: kids[0]} if word == "loop" and place else inner
            kids.append(self.weigh(kid, way + (place,), scene))
        if word == "call":
            self.note(way, *[kid - self.by(param, opened) for kid, param in zip(kids, kind[1])])
            return self.by(kind[2], opened)
        if word in ("plus", "minus", "loop"):
            self.note(way, kids[0] - kids[1])
        if word == "if":
            self.note(way, kids[0] - kids[1], kids[2] - kids[3])
            return kids[2]
        if word == "power":
            return kids[0] * told[2]
        return kids[0] + kids[1] * {"times": 1, "over": -1}[word] if word in ("times", "over") else kids[0]


class Case(unittest.TestCase):
    def ask(self, text, number=-1):
        """The sums of a program's row, the last one if none is told, by the kinds of all rows ahead."""
        program = read(text)
        number = number % len(program)
        ahead = kinds_of(program[:number]) if number else []
        return self.ask_program(program, ahead, number)

    def ask_program(self, program, kinds, number):
        before = copy.deepcopy((program, kinds))
        told = sums_of(program, kinds, number)
        self.assertEqual((program, kinds), before)
        self.assertEqual(sums_of(program, kinds, number), told)
        self.assertEqual([part.__class__ for part in told], [int, list, list, list])
        self.assertIs(told.__class__, tuple)
        length = told[0] + sum(row[0] == "unit" for row in program)
        for row in told[1] + told[2]:
            self.assertEqual([row.__class__] + [number.__class__ for number in row], [list] + [int] * length)
        self.assertEqual(len(told[2]), len(told[3]))
        for place in told[3]:
            self.assertEqual([place.__class__, place[0].__class__, place[1].__class__], [tuple, tuple, int])
        return told


class Measures(Case):
    def test_numbers(self):
        self.assertEqual(self.ask("show 3"), (0, [[]], [], []))
        self.assertEqual(self.ask("unit m\nshow 3"), (0, [[0]], [], []))
        self.assertEqual(self.ask("unit m\nunit s\nshow 3[s^-2 m]"), (0, [[1, -2]], [], []))
        self.assertEqual(self.ask("unit m\nshow 0[m]"), (0, [[1]], [], []))
        self.assertEqual(self.ask("unit m\nshow 0[]"), (0, [[0]], [], []))

    def test_noughts_of_any_unit(self):
        self.assertEqual(self.ask("show 0"), (1, [[1]], [], []))
        self.assertEqual(self.ask("unit m\nlet a = 0 * 0"), (2, [[1, 1, 0]], [], []))
        self.assertEqual(self.ask("unit m\nshow 0 + 0:5"), (2, [[1, 0, 0]], [[1, -1, 0]], [((), 0)]))

    def test_units_as_they_are_told(self):
        self.assertEqual(self.ask("unit s\nunit a\nunit m\nshow 3[a^2 m s^-1]"), (0, [[-1, 2, 1]], [], []))

    def test_units_of_rows_behind(self):
        self.assertEqual(self.ask("unit s\nshow 3[s]\nunit a\nshow 1\nunit m", 1), (0, [[1, 0, 0]], [], []))
        self.assertEqual(self.ask("show 0 + 0\nunit s\nunit a", 0), (2, [[1, 0, 0, 0]], [[1, -1, 0, 0]], [((), 0)]))

    def test_params(self):
        self.assertEqual(self.ask("fun f(a) = a"), (1, [[1], [1]], [], []))
        self.assertEqual(self.ask("unit m\nfun f(a, b, c) = b"),
                         (3, [[1, 0, 0, 0], [0, 1, 0, 0], [0, 0, 1, 0], [0, 1, 0, 0]], [], []))
        self.assertEqual(self.ask("unit m\nfun f(a) = 2[m]"), (1, [[1, 0], [0, 1]], [], []))

    def test_names_of_takes_and_lets(self):
        self.assertEqual(self.ask("unit m\ntake a [m^2]\nshow a"), (0, [[2]], [], []))
        self.assertEqual(self.ask("unit m\nlet a = 3[m]\nshow a * a"), (0, [[2]], [], []))
        self.assertEqual(self.ask("unit m\nlet a = 0\nshow a * a"), (2, [[1, 1, 0]], [], []))
        self.assertEqual(self.ask("unit m\nlet a = 0^2 * 1[m]\nshow a"), (1, [[2, 1]], [], []))

    def test_negative_times_over_power(self):
        two = "unit m\nunit s\ntake a [m]\ntake b [s]\n"
        for text, row in (("-a", [1, 0]), ("a * b", [1, 1]), ("a / b", [1, -1]), ("a / (a / b)", [0, 1]),
                          ("a^3", [3, 0]), ("b^-5", [0, -5]), ("a^0", [0, 0]), ("(a / b)^-2", [-2, 2]),
                          ("--a * -b^2", [1, 2])):
            self.assertEqual(self.ask(two + "show " + text), (0, [row], [], []))
        self.assertEqual(self.ask("show 0^-3"), (1, [[-3]], [], []))
        self.assertEqual(self.ask("show 0^0"), (1, [[0]], [], []))

    def test_sums_have_what_their_left_side_has(self):
        two = "unit m\nunit s\ntake a [m]\ntake b [s]\n"
        self.assertEqual(self.ask(two + "show a + b"), (0, [[1, 0]], [[1, -1]], [((), 0)]))
        self.assertEqual(self.ask(two + "show b - a"), (0, [[0, 1]], [[-1, 1]], [((), 0)]))

    def test_choices_have_what_their_third_has(self):
        four = "unit m\nunit s\nunit t\ntake a [m]\ntake b [s]\ntake c [t]\n"
        self.assertEqual(self.ask(four + "show if a < b then c else 1"),
                         (0, [[0, 0, 1]], [[1, -1, 0], [0, 0, 1]], [((), 0), ((), 1)]))
        self.assertEqual(self.ask(four + "show if 1 < 2 then a else c")[1:], ([[1, 0, 0]], [[0, 0, 0], [1, 0, -1]],
                                                                              [((), 0), ((), 1)]))

    def test_loops_have_what_their_start_has(self):
        one = "unit m\ntake a [m]\n"
        for rounds in (0, 1, 12):
            self.assertEqual(self.ask(one + f"show loop x = a for {rounds} do 2"), (0, [[1]], [[1]], [((), 0)]))
            self.assertEqual(self.ask(one + f"show loop x = a for {rounds} do x * x"), (0, [[1]], [[-1]], [((), 0)]))

    def test_a_loops_name_hides_other_names(self):
        one = "unit m\nunit s\ntake a [m]\n"
        self.assertEqual(self.ask(one + "show (loop a = 1[s] for 2 do a * a) * a"),
                         (0, [[1, 1]], [[0, -1]], [((0,), 0)]))
        self.assertEqual(self.ask(one + "show loop a = a * a for 2 do a"), (0, [[2, 0]], [[0, 0]], [((), 0)]))
        self.assertEqual(self.ask(one + "fun f(x) = loop x = x^2 for 2 do x")[:3],
                         (1, [[1, 0, 0], [2, 0, 0]], [[0, 0, 0]]))
        self.assertEqual(self.ask(one + "show loop x = 1[s] for 2 do loop x = x^2 for 1 do x")[1:],
                         ([[0, 1]], [[0, 0], [0, -1]], [((1,), 0), ((), 0)]))

    def test_params_hide_rows_names(self):
        self.assertEqual(self.ask("unit m\ntake a [m]\nlet b = 0\nfun f(a, b) = a * b"),
                         (2, [[1, 0, 0], [0, 1, 0], [1, 1, 0]], [], []))
        self.assertEqual(self.ask("unit m\nfun f(m) = m * 2[m]"), (1, [[1, 0], [1, 1]], [], []))
        self.assertEqual(self.ask("fun f(f) = f"), (1, [[1], [1]], [], []))

    def test_calls(self):
        square = "unit m\nfun f(a) = a^2 * 3[m]\n"
        self.assertEqual(self.ask(square + "show f(5[m^4])"), (1, [[2, 1]], [[-1, 4]], [((), 0)]))
        self.assertEqual(self.ask(square + "show f(f(1))"),
                         (2, [[2, 0, 1]], [[0, -1, 0], [-1, 2, 1]], [((0,), 0), ((), 0)]))
        self.assertEqual(self.ask("fun f(a, b, c) = a + b\nshow f(0, 1, 0)"),
                         (4, [[1, 0, 0, 0]], [[-1, 0, 1, 0], [-1, 0, 0, 0], [0, -1, 0, 1]],
                          [((), 0), ((), 1), ((), 2)]))

    def test_functions_called_twice_in_a_row(self):
        self.assertEqual(self.ask("unit m\nfun f(a) = a\nshow f(1[m]) * f(2)"),
                         (2, [[1, 1, 0]], [[-1, 0, 1], [0, -1, 0]], [((0,), 0), ((1,), 0)]))

    def test_functions_without_open_units(self):
        self.assertEqual(self.ask("unit m\nfun f(a) = a + 1[m]\nshow f(2[m]) + f(3)"),
                         (0, [[1]], [[0], [-1], [0]], [((0,), 0), ((1,), 0), ((), 0)]))


class Order(Case):
    def test_unknowns_from_the_left_each_node_ahead_of_its_kids(self):
        rows = "let z = 0\nfun f(a, b) = a * b\n"
        # Unknowns: p; of f's call two; of its first argument's nought; of z; of the last nought.
        told = self.ask(rows + "fun g(p) = f(0, z) * 0 * p")
        self.assertEqual(told[0], 6)
        self.assertEqual(told[1], [[1, 0, 0, 0, 0, 0], [1, 1, 1, 0, 0, 1]])
        self.assertEqual(told[2], [[0, -1, 0, 1, 0, 0], [0, 0, -1, 0, 1, 0]])

    def test_params_ahead_of_all_by_their_own_order(self):
        told = self.ask("fun g(b, a) = 0 + a / b")
        self.assertEqual(told, (3, [[1, 0, 0], [0, 1, 0], [0, 0, 1]], [[1, -1, 1]], [((), 0)]))

    def test_unknowns_of_choices_and_loops(self):
        told = self.ask("show if 0 < 0 then 0 else 0")
        self.assertEqual(told[:3], (4, [[0, 0, 1, 0]], [[1, -1, 0, 0], [0, 0, 1, -1]]))
        told = self.ask("show loop x = 0 for 3 do 0 * x * 0")
        self.assertEqual(told[:3], (3, [[1, 0, 0]], [[0, -1, -1]]))

    def test_calls_within_calls(self):
        told = self.ask("fun f(a, b) = a * b\nshow f(f(0, 1), 0)")
        self.assertEqual(told[0], 6)
        self.assertEqual(told[1], [[1, 1, 0, 0, 0, 0]])
        self.assertEqual(told[2], [[0, 0, -1, 0, 1, 0], [0, 0, 0, -1, 0, 0], [-1, 0, 1, 1, 0, 0], [0, -1, 0, 0, 0, 1]])
        self.assertEqual(told[3], [((0,), 0), ((0,), 1), ((), 0), ((), 1)])

    def test_equations_at_the_ends_of_nodes(self):
        told = self.ask("show if 1 + 2 < 3 then (4 - (5 + 6)) * -7 else loop x = 8 for 2 do x - 9")
        self.assertEqual(told[3], [((0,), 0), ((2, 0, 1), 0), ((2, 0), 0), ((3, 1), 0), ((3,), 0), ((), 0), ((), 1)])

    def test_places_of_each_form(self):
        for text, places in (("-(1 + 2)", [((0,), 0)]), ("(1 + 2)^3", [((0,), 0)]), ("(1 + 2) * 3", [((0,), 0)]),
                             ("3 / (1 - 2)", [((1,), 0)]), ("loop x = 1 + 2 for 3 do 4", [((0,), 0), ((), 0)]),
                             ("loop x = 1 for 3 do 2 + 4", [((1,), 0), ((), 0)]),
                             ("f(1 + 2, 3 + 4, 5)", [((0,), 0), ((1,), 0), ((), 0), ((), 1), ((), 2)]),
                             ("if 1 < 2 then 3 else 4 + 5", [((3,), 0), ((), 0), ((), 1)])):
            self.assertEqual(self.ask("fun f(a, b, c) = a\nshow " + text)[3], places)


class Drawn(Case):
    def test_by_weights(self):
        """The unknowns and names weigh something drawn: then rows and equations weigh what nodes weigh."""
        source = random.Random(71)
        seen = 0
        for turn in range(120):
            program = sound.program(source)[0]
            kinds = kinds_of(program)
            for number, row in enumerate(program):
                if row[0] in ("let", "fun", "show"):
                    unknowns, rows, equations, places = self.ask_program(program, kinds[:number], number)
                    self.assertEqual(sums_of(program, kinds, number), (unknowns, rows, equations, places))
                    other = Weigher(source, program, kinds, number)
                    weights = other.unknowns + list(other.names.values())
                    self.assertEqual(unknowns, len(other.unknowns))
                    self.assertEqual(places, other.places)
                    for told, weighed in ((rows, other.rows), (equations, other.weighed)):
                        self.assertEqual([sum(mine * own for mine, own in zip(one, weights)) for one in told], weighed)
                    seen += len(equations)
        self.assertGreater(seen, 1000)


class Kept(Case):
    def test_told_lists_changed_behind(self):
        program = read("unit m\nfun f(a) = a + 0\nshow f(1) + f(2)")
        kinds = kinds_of(program)
        before = copy.deepcopy((program, kinds, [sums_of(program, kinds, number) for number in (1, 2)]))
        for number in (1, 2):
            told = sums_of(program, kinds, number)
            for part in told[1:]:
                if isinstance(part[0], list):
                    part[0][0] = 99
                part.append(99)
        self.assertEqual((program, kinds, [sums_of(program, kinds, number) for number in (1, 2)]), before)

    def test_lists_handed_in_changed_behind(self):
        program = read("let a = 0\nshow a + 0")
        kinds = kinds_of(program)
        told = sums_of(program, kinds, 1)
        before = copy.deepcopy(told)
        kinds[0] = (2, (), ((1, 1), ()))
        kinds.append(None)
        self.assertEqual(told, before)

    def test_rows_are_lists_of_their_own(self):
        told = sums_of(read("fun f(a) = a"), [], 0)
        told[1][0].append(5)
        self.assertEqual(told[1], [[1, 5], [1]])


if __name__ == "__main__":
    unittest.main()
