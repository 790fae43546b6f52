"""The grammar of [P4] as plain rules, and what it tells of a row of pieces: how far they can begin a program.

It shares nothing with the program: it follows all ways to read the pieces at once, without bounds.
"""

RULES = {
    "program": [["row"], ["program", "line", "row"]],
    "row": [["unit", "NAME"], ["take", "NAME", "UNIT"], ["let", "NAME", "=", "E"],
            ["fun", "NAME", "(", "params", ")", "=", "E"], ["show", "E"]],
    "params": [["NAME"], ["NAME", ",", "NAME"], ["NAME", ",", "NAME", ",", "NAME"]],
    "E": [["if", "E", "<", "E", "then", "E", "else", "E"], ["loop", "NAME", "=", "E", "for", "COUNT", "do", "E"],
          ["sum"]],
    "sum": [["product"], ["sum", "+", "product"], ["sum", "-", "product"]],
    "product": [["signed"], ["product", "*", "signed"], ["product", "/", "signed"]],
    "signed": [["-", "signed"], ["single"], ["single", "POWER"]],
    "single": [["number"], ["number", "UNIT"], ["NAME"], ["NAME", "(", "arguments", ")"], ["(", "E", ")"]],
    "arguments": [["E"], ["E", ",", "E"], ["E", ",", "E", ",", "E"]],
    "number": [["NUMBER"], ["COUNT"]],
}


def closed(begun, columns):
    """All states (rule's head, its body, how far, since when) that a column of them leads to."""
    states, left = set(begun), list(begun)
    while left:
        head, body, far, since = left.pop()
        if far == len(body):
            waiting = columns[since] if since < len(columns) else states
            new = [(other, rest, place + 1, start) for other, rest, place, start in waiting
                   if place < len(rest) and rest[place] == head]
        else:
            new = [(body[far], tuple(rule), 0, len(columns)) for rule in RULES.get(body[far], [])]
        for state in new:
            if state not in states:
                states.add(state)
                left.append(state)
    return states


def standing(kinds):
    """How many of the pieces, told by their kinds, can stand there; and whether they are a program then."""
    columns = []
    column = closed([("all", ("program",), 0, 0)], columns)
    for place, kind in enumerate(kinds):
        columns.append(column)
        begun = [(head, body, far + 1, since) for head, body, far, since in column
                 if far < len(body) and body[far] == kind]
        if not begun:
            return place, False
        column = closed(begun, columns)
    return len(kinds), ("all", ("program",), 1, 0) in column
