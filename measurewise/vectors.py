"""Vectors, lists of whole numbers, and steps of them: what solving is made of.

Vectors stand in steps where each has its first number other than 0, its pivot, farther on than the one ahead has it,
and above 0; and where what the ones ahead have at its place is from 0 to one less than the pivot.
"""


class Step:
    """A vector, and the place of its pivot."""

    def __init__(self, place, vector):
        self.place = place
        self.vector = vector


def one_at(place, length):
    """The vector with 1 at a place and 0 elsewhere; 0 everywhere, if the place is none of it."""
    return [1 if other == place else 0 for other in range(length)]


def mixed(factor, one, other_factor, other):
    """One vector so many times, and another one so many times, added up."""
    return [factor * mine + other_factor * yours for mine, yours in zip(one, other)]


def marks_of(vector):
    """A list of (place, number) wherever a vector has no 0."""
    return [(place, number) for place, number in enumerate(vector) if number != 0]


def reach_of(vector, marks):
    """What a vector comes to: its numbers at the marks, each so often as the mark tells."""
    return sum([vector[place] * number for place, number in marks])


def divisor_of(one, other):
    """A tuple (divisor, factor, other_factor): the greatest common divisor, and how often both make it.

    The other is from 1 on. Where it divides one it is the divisor, made by it alone.
    """
    greater = other
    lesser = one % other
    factor = 0
    factor_behind = 1
    while lesser > 0:
        times = greater // lesser
        rest = greater - times * lesser
        greater = lesser
        lesser = rest
        factor_ahead = factor
        factor = factor_behind
        factor_behind = factor_ahead - times * factor
    least = factor % (other // greater)
    return (greater, least, (greater - least * one) // other)


def rows_of(vectors, count):
    """The rows that vectors make side by side: of each of so many places what the vectors have there."""
    return [[vector[place] for vector in vectors] for place in range(count)]


def lessened(vector, steps):
    """A vector less so much of the steps that the least numbers from 0 on are left at their pivots."""
    rest = vector
    for step in steps:
        times = rest[step.place] // step.vector[step.place]
        if times != 0:
            rest = mixed(1, rest, -times, step.vector)
    return rest


def parted(steps, marks):
    """A tuple (steps, vector, reach): steps that come to 0 by the marks, and a vector that comes to the least above 0.

    Together they make all that the steps made. None and 0, where no step comes to anything.
    """
    kept = []
    vector = None
    reach = 0
    # From the last one on: what is mixed into a vector then has 0 up to its pivot's place, so all stays in steps.
    for step in reversed(steps):
        own = reach_of(step.vector, marks)
        if own == 0:
            kept.insert(0, step)
        elif reach == 0:
            reach = abs(own)
            vector = step.vector if own > 0 else mixed(-1, step.vector, 0, step.vector)
        else:
            found = divisor_of(own, reach)
            without = mixed(reach // found[0], step.vector, -(own // found[0]), vector)
            kept.insert(0, Step(step.place, lessened(without, kept)))
            if found[0] < reach:
                reach = found[0]
                vector = lessened(mixed(found[1], step.vector, found[2], vector), kept)
    return (kept, vector, reach)
