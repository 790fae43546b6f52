"""Rows in the normal form: told by the one choice of open units whose vectors stand in steps."""

from measurewise.vectors import Step, divisor_of, lessened, mixed, rows_of


def first_place(vector):
    """The place of the first number other than 0; None where there is none."""
    for place, number in enumerate(vector):
        if number != 0:
            return place
    return None


def all_lessened(steps):
    """The same steps, each lessened by those behind it."""
    kept = []
    for step in reversed(steps):
        kept.insert(0, Step(step.place, lessened(step.vector, kept)))
    return kept


def with_one_more(steps, vector):
    """Steps that make all that the steps and a vector make."""
    kept = steps
    rest = lessened(vector, kept)
    place = first_place(rest)
    while place is not None:
        ahead = [step for step in kept if step.place < place]
        behind = [step for step in kept if step.place > place]
        there = [step.vector for step in kept if step.place == place]
        if len(there) == 0:
            sign = 1 if rest[place] > 0 else -1
            kept = ahead + [Step(place, mixed(sign, rest, 0, rest))] + behind
            place = None
        else:
            own = there[0]
            found = divisor_of(rest[place], own[place])
            kept = ahead + [Step(place, mixed(found[1], rest, found[2], own))] + behind
            # Lessened at once: what is mixed again and again would grow without end.
            rest = lessened(mixed(own[place] // found[0], rest, -(rest[place] // found[0]), own), behind)
            place = first_place(rest)
    return all_lessened(kept)


def normal(free, names, rows):
    steps = []
    for place in range(free):
        steps = with_one_more(steps, [row[place] for row in rows])
    fixed = [lessened([row[free + name] for row in rows], steps) for name in range(names)]
    return (len(steps), rows_of([step.vector for step in steps] + fixed, len(rows)))
