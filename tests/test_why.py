"""[Y1] the fewest equations that clash, why programs aren't let by, and [A2] of them: measurewise.why."""

import copy
import random
import unittest

import sound
from measurewise.errors import BadCount, BadNumber, BadText, Clash, NoName, Steep, Twice
from measurewise.kinds import kinds_of
from measurewise.reading import read
from measurewise.solving import solved
from measurewise.sums import sums_of
from measurewise.trees import node_of
from measurewise.units import shown_unit, unit_of
from measurewise.why import fewest, shown_why, why_not
from samples import no_numbers_no_texts


def drawn_equations(source, unknowns, names, count, size):
    return [[source.randint(-size, size) * source.choice([0, 1, 1]) for place in range(unknowns)]
            + [source.choice([0, 0, 1, -2]) for name in range(names)] for turn in range(count)]


class Fewest(unittest.TestCase):
    def ask(self, unknowns, names, equations):
        """What is told is as promised; how many there are, or None."""
        before = copy.deepcopy(equations)
        told = fewest(unknowns, names, equations)
        self.assertEqual(equations, before)
        self.assertEqual(fewest(unknowns, names, equations), told)
        whole = solved(unknowns, names, equations)
        self.assertEqual(told is None, whole[0] == "solved")
        if told is None:
            return None
        self.assertEqual([part.__class__ for part in told], [list, list, int])
        self.assertIs(told.__class__, tuple)
        kept, factors, modulus = told
        self.assertEqual(kept, sorted(set(kept)))
        self.assertEqual(solved(unknowns, names, [equations[number] for number in kept]), ("clash", factors, modulus))
        self.assertNotIn(0, factors)
        for number in kept:
            rest = [equations[other] for other in kept if other != number]
            self.assertEqual(solved(unknowns, names, rest)[0], "solved")
        return len(kept)

    def test_none_where_they_are_solved(self):
        self.assertIsNone(self.ask(0, 0, []))
        self.assertIsNone(self.ask(2, 1, []))
        self.assertIsNone(self.ask(1, 1, [[1, 3], [2, 6], [0, 0]]))

    def test_one_alone(self):
        self.assertEqual(fewest(1, 1, [[2, 1]]), ([0], [1], 2))
        self.assertEqual(fewest(0, 1, [[0], [1], [0]])[0], [1])
        self.assertEqual(self.ask(1, 1, [[1, 0], [0, 1], [1, 5]]), 1)
        self.assertEqual(self.ask(2, 1, [[1, 1, 0], [2, 4, 1], [0, 0, 0]]), 1)

    def test_several(self):
        self.assertEqual(self.ask(1, 1, [[1, 0], [1, 1]]), 2)
        self.assertEqual(self.ask(3, 1, [[1, -1, 0, 0], [0, 1, -1, 0], [5, 5, 5, 0], [1, 0, -1, 1]]), 3)
        self.assertEqual(self.ask(3, 1, [[1, 1, 0, 0], [0, 1, 1, 0], [1, 0, 1, 1]]), 3)
        self.assertEqual(self.ask(2, 1, [[2, 0, 0], [1, 2, 1]]), 2)

    def test_fewer_than_a_clash_needs_not_be_the_fewest_of_all(self):
        equations = [[1, 0, 0], [0, 1, 0], [1, 1, 1], [0, 0, 1]]
        self.assertIn(self.ask(2, 1, equations), (1, 3))

    def test_all_of_a_ring(self):
        ring = [[0] * place + [1, -1] + [0] * (28 - place) + [1] for place in range(29)] + [[-1] + [0] * 28 + [1, 0]]
        self.assertEqual(self.ask(30, 1, ring), 30)

    def test_drawn_ones(self):
        source = random.Random(121)
        counts = {}
        for turn in range(500):
            unknowns, names = source.randint(0, 4), source.randint(1, 3)
            equations = drawn_equations(source, unknowns, names, source.randint(0, 7), source.choice([1, 2, 6]))
            count = self.ask(unknowns, names, equations)
            counts[count] = counts.get(count, 0) + 1
        for count in (None, 1, 2, 3):
            self.assertGreater(counts.get(count, 0), 20, counts)

    def test_the_most_that_may_be(self):
        chain = [[0] * place + [1, -1] + [0] * (238 - place) + [1] + [0] * 5 for place in range(239)]
        ring = chain + [[-1] + [0] * 238 + [1] + [0] * 6]
        self.assertEqual(fewest(240, 6, ring)[0], list(range(240)))
        self.assertIsNone(fewest(240, 6, [[0] * 246] * 240))

    def test_refused_as_solved(self):
        for thing in no_numbers_no_texts() + ["", -1, 241]:
            self.refuse(thing, 1, [])
        for thing in no_numbers_no_texts() + ["", -1, 7]:
            self.refuse(1, thing, [])
        for thing in (None, "", 1, (), ([1, 1],), [[1]], [[1, 1, 1]], [(1, 1)], [[1, True]], [[1, 1.0]], [None],
                      [[0, 0]] * 241):
            self.refuse(1, 1, thing)
        self.refuse(1, 1, [[0, 1], [1]])

    def refuse(self, unknowns, names, equations):
        with self.assertRaises(BadNumber):
            fewest(unknowns, names, equations)

    def test_told_lists_changed_behind(self):
        equations = [[1, 0], [1, 1]]
        told = fewest(1, 1, equations)
        before = copy.deepcopy(told)
        told[0].append(5)
        told[1][0] = 9
        self.assertEqual(fewest(1, 1, equations), before)
        told = fewest(1, 1, equations)
        equations[0][0] = 7
        equations.append([9, 9])
        self.assertEqual(told, before)


class Case(unittest.TestCase):
    def refuse(self, text, kind):
        program = read(text) if isinstance(text, str) else text
        fields = []
        for ask in (why_not, shown_why):
            with self.assertRaises(kind) as refusal:
                ask(program)
            fields.append(vars(refusal.exception))
        self.assertEqual(fields[0], fields[1])
        return fields[0]


class WhyNot(Case):
    def ask(self, program):
        """What is told is as promised, and shown so."""
        program = read(program) if isinstance(program, str) else program
        before = copy.deepcopy(program)
        told = why_not(program)
        self.assertEqual(program, before)
        self.assertEqual(why_not(program), told)
        try:
            kinds_of(program)
            self.assertIsNone(told)
            self.assertEqual(shown_why(program), [])
            return None
        except Clash as refusal:
            self.assertEqual(told[0], refusal.row)
        self.assertEqual([part.__class__ for part in told], [int, tuple, int, tuple])
        self.assertIs(told.__class__, tuple)
        self.ask_parts(program, *told)
        self.ask_lines(program, *told)
        return told

    def ask_parts(self, program, row, parts, modulus, left):
        kinds = kinds_of(program[:row]) if row else []
        unknowns, rows, equations, places = sums_of(program, kinds, row)
        names = [one[1] for one in program if one[0] == "unit"]
        kept, factors, own = fewest(unknowns, len(names), equations)
        self.assertEqual(parts, tuple((places[number], factor) for number, factor in zip(kept, factors)))
        self.assertEqual(modulus, own)
        total = [sum(factor * equations[number][place] for number, factor in zip(kept, factors))
                 for place in range(unknowns + len(names))]
        rest = [number % modulus if modulus else number for number in total]
        self.assertEqual(rest[:unknowns], [0] * unknowns)
        self.assertEqual(left, unit_of(list(zip(names, rest[unknowns:]))))
        self.assertNotEqual(left, ())

    def ask_lines(self, program, row, parts, modulus, left):
        lines = [f"row {row + 1}"]
        for (way, which), factor in parts:
            node = node_of(program[row][-1])
            for kid in way:
                node = node.kids()[kid]
            lines.append(f"{factor} of {which + 1} in {node.written()}")
        lines.append((f"left over by {modulus}: " if modulus else "left over: ") + shown_unit(left))
        self.assertEqual(shown_why(program), lines)

    def test_none_where_kinds_are_told(self):
        for text in ("unit m", "show 1", "unit m\nshow 1[m] + 0", "fun f(x) = x^2\nshow f(3)"):
            self.assertIsNone(self.ask(text))
            self.assertEqual(shown_why(read(text)), [])

    def test_by_hand(self):
        self.assertEqual(self.ask("unit m\nunit s\nshow 1[m] + 2[s]"), (2, ((((), 0), 1),), 0, (("m", 1), ("s", -1))))
        self.assertEqual(self.ask("unit m\nfun f(x) = x^2 + 1[m]"), (1, ((((), 0), 1),), 2, (("m", 1),)))
        self.assertEqual(self.ask("unit m\nshow 1\nshow if 1 < 2 then 3[m] else 4\nshow 1 + 1[m]")[:2],
                         (2, ((((), 1), 1),)))
        told = self.ask("unit m\nfun f(x) = (x + 1[m]) * (2 + 3) * (x + 1)")
        self.assertEqual([part[0] for part in told[1]], [((0, 0), 0), ((1,), 0)])
        # Which sign is not promised, but both are not the same.
        self.assertEqual(told[1][0][1], -told[1][1][1])

    def test_lines(self):
        self.assertEqual(shown_why(read("unit m\nunit s\nshow 1[m] + 2[s]")),
                         ["row 3", "1 of 1 in 1[m] + 2[s]", "left over: m s^-1"])
        self.assertEqual(shown_why(read("unit m\nfun f(x) = x^2 + 1[m]")),
                         ["row 2", "1 of 1 in x^2 + 1[m]", "left over by 2: m"])
        self.assertEqual(shown_why(read("unit m\nlet a = 3 * (if 1 < 2 then 3[m] else (4))")),
                         ["row 2", "1 of 2 in if 1 < 2 then 3[m] else 4", "left over: m"])
        self.assertIn(shown_why(read("unit m\nfun f(x, y) = x + y\nshow -f(1[m], 2 + 3)")),
                      (["row 3", "1 of 1 in f(1[m], 2 + 3)", "-1 of 2 in f(1[m], 2 + 3)", "left over: m"],
                       ["row 3", "-1 of 1 in f(1[m], 2 + 3)", "1 of 2 in f(1[m], 2 + 3)", "left over: m^-1"]))
        self.assertEqual(shown_why(read("unit m\nshow loop x = 1[m] for 2 do x * x")),
                         ["row 2", "1 of 1 in loop x = 1[m] for 2 do x * x", "left over: m^-1"])

    def test_the_first_row_that_clashes(self):
        self.assertEqual(self.ask("unit m\nshow 1 + 1\nshow 1 + 1[m]\nfun f(x) = x^2 + 1[m]")[0], 2)

    def test_fewest_of_many(self):
        told = self.ask("unit m\nunit s\nfun f(x, y, z) = (x + y) * (y + z) * (x + 1[m]) * (z + 2[m]) * (y^2 + 1[s])")
        self.assertLess(len(told[1]), 5)

    def test_drawn_ones(self):
        source = random.Random(122)
        seen = {True: 0, False: 0}
        for turn in range(250):
            wrong = sound.spoilt(source, sound.program(source)[0])
            try:
                seen[self.ask(wrong) is None] += 1
            except Steep:
                self.assertRaises(Steep, kinds_of, wrong)
        self.assertGreater(min(seen.values()), 25, seen)


class Refused(Case):
    STEEP = "let a = 1[m^9]^5\nlet b = a * a\n"

    def test_what_is_no_program(self):
        for thing in no_numbers_no_texts() + [1, (), (("show",),)]:
            self.assertEqual(self.refuse(thing, BadText), {"at": None})

    def test_names_ahead_of_all_else(self):
        wrong = "unit m\nshow 1 + 1[m]\n"
        self.assertEqual(self.refuse(wrong + "show q", NoName), {"row": 2, "name": "q"})
        self.assertEqual(self.refuse(wrong + "unit m", Twice), {"row": 2, "name": "m"})
        self.assertEqual(self.refuse(wrong + "fun f(x) = x\nshow f(1, 2)", BadCount), {"row": 3, "name": "f"})

    def test_steep_ahead_and_behind(self):
        self.assertEqual(self.refuse("unit m\n" + self.STEEP + "show 1", Steep), {"row": 2})
        self.assertEqual(self.refuse("unit m\n" + self.STEEP + "show 1 + 1[m]", Steep), {"row": 2})
        behind = read("unit m\nshow 1 + 1[m]\n" + self.STEEP + "show 1")
        self.assertEqual(why_not(behind)[0], 1)
        self.assertEqual(shown_why(behind)[0], "row 2")

    def test_told_lists_changed_behind(self):
        program = read("unit m\nshow 1 + 1[m]")
        told = shown_why(program)
        before = list(told)
        told.append("more")
        told[0] = "other"
        self.assertEqual(shown_why(program), before)


if __name__ == "__main__":
    unittest.main()
