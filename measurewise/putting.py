"""Units put in for the open ones of a solution, and found again by what comes of them."""

from measurewise.solving import solution_of


def put_in_row(row, free, names, found):
    """The exponents of names in a row, once found is put in for its open units."""
    return [row[free + name] + sum([row[place] * found[place][name] for place in range(free)])
            for name in range(names)]


def put_in(rows, free, names, found):
    return [put_in_row(row, free, names, found) for row in rows]


def met_by(rows, free, names, wanted):
    equations = [row[:free] + [row[free + name] - exponents[name] for name in range(names)]
                 for row, exponents in zip(rows, wanted)]
    told = solution_of(free, names, equations)
    if told[0] == "clash":
        return None
    # Where some open units are free to be anything they are no unit at all.
    return [row[told[1]:] for row in told[2]]
