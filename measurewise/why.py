"""Why a program isn't let by: the fewest of a row's equations that clash, as sums that can be followed."""

from measurewise.errors import Clash
from measurewise.forms import kids_of
from measurewise.kinds import kind_of, parts_of
from measurewise.scopes import need_program
from measurewise.solving import Solution, all_left_over, need_equations, open_solution, solution_of
from measurewise.sums import sums_of, units_of
from measurewise.units import shown_unit, unit_of
from measurewise.vectors import mixed
from measurewise.writing import written_expression


def with_taken_in(solution, equations, numbers):
    """A solution that has taken in some equations more, by their numbers; None where they clash."""
    more = Solution(solution.unknowns, solution.steps, solution.fixed)
    for number in numbers:
        if more.take_in(number, equations[number]) is not None:
            return None
    return more


def needed(solution, equations, numbers):
    """The fewest of some equations that clash with what a solution has taken in; all of them together do.

    Of two halves those behind are needed that clash with all of the ones ahead, and then those ahead that clash with
    these: so none is left that could be without.
    """
    if len(numbers) == 1:
        return numbers
    half = len(numbers) // 2
    ahead = numbers[:half]
    behind = []
    other = with_taken_in(solution, equations, ahead)
    if other is not None:
        behind = needed(other, equations, numbers[half:])
    other = with_taken_in(solution, equations, behind)
    if other is None:
        return behind
    return needed(other, equations, ahead) + behind


def fewest_of(unknowns, names, equations):
    """What fewest tells, of whatever counts."""
    told = solution_of(unknowns, names, equations)
    if told[0] == "solved":
        return None
    used = [number for number, factor in enumerate(told[1]) if factor != 0]
    kept = needed(open_solution(unknowns, names), equations, used)
    told = solution_of(unknowns, names, [equations[number] for number in kept])
    return (kept, told[1], told[2])


def fewest(unknowns, names, equations):
    need_equations(unknowns, names, equations)
    return fewest_of(unknowns, names, equations)


def why_of_row(program, kinds, number):
    """What why_not tells of a row that clashes, by the kinds of the rows ahead."""
    sums = sums_of(program, kinds, number)
    names = units_of(program)
    found = fewest_of(sums[0], len(names), sums[2])
    parts = parts_of([sums[3][place] for place in found[0]], found[1])
    total = [0] * len(names)
    for place, factor in zip(found[0], found[1]):
        total = mixed(1, total, factor, sums[2][place][sums[0]:])
    left = unit_of(list(zip(names, all_left_over(total, found[2]))))
    return (number, parts, found[2], left)


def why_not(program):
    need_program(program)
    kinds = []
    for number in range(len(program)):
        try:
            kinds.append(kind_of(program, kinds, number))
        except Clash:
            return why_of_row(program, kinds, number)
    return None


def shown_part(told, part):
    """The line for a part: how often, which equation, and the node that it belongs to."""
    node = told
    for kid in part[0][0]:
        node = kids_of(node)[kid]
    factor = part[1]
    which = part[0][1] + 1
    text = written_expression(node)
    return f"{factor} of {which} in {text}"


def shown_left(modulus, left):
    unit = shown_unit(left)
    if modulus == 0:
        return f"left over: {unit}"
    return f"left over by {modulus}: {unit}"


def shown_why(program):
    why = why_not(program)
    if why is None:
        return []
    number = why[0] + 1
    parts = [shown_part(program[why[0]][-1], part) for part in why[1]]
    return [f"row {number}"] + parts + [shown_left(why[2], why[3])]
