"""Expressions and programs drawn by a source of chance that is the same each time, and loose ways to write them."""

NAMES = ("a", "b", "x", "speed", "abcdefgh", "iff", "units")
UNITS = (None, (), (), (("m", 1),), (("m", 1), ("s", -2)), (("kg", -9), ("m", 9)))


def chain(depth, leaf):
    """An expression just so deep, with so many nodes."""
    return leaf if depth == 1 else ("negative", chain(depth - 1, leaf))


def broad(nodes, leaf):
    """An expression with so many nodes, as flat as can be."""
    if nodes <= 2:
        return chain(nodes, leaf)
    left = (nodes - 1) // 2
    return ("times", broad(left, leaf), broad(nodes - 1 - left, leaf))


def number(source):
    unit = source.choice(UNITS)
    if unit is None or source.random() < 0.2:
        return ("number", (0, 1), unit)
    return ("number", source.choice([(1, 1), (3, 4), (999999999, 1), (1, 999999999), (7, 2), (12, 1)]), unit)


def expression(source, nodes, depth):
    """An expression with just so many nodes, and no deeper than told, if that can be."""
    if nodes <= 1 or depth <= 1:
        return source.choice([number(source), ("name", source.choice(NAMES))])
    words = ["negative", "power", "call"]
    if nodes >= 3:
        words += ["plus", "minus", "times", "over", "loop", "call"]
    if nodes >= 5:
        words.append("if")
    word = source.choice(words)
    counts = {"negative": 1, "power": 1, "if": 4, "call": source.randint(1, min(3, nodes - 1))}
    kids = [expression(source, share, depth - 1) for share in shares(source, nodes - 1, counts.get(word, 2))]
    if word == "power":
        return (word, kids[0], source.randint(-5, 5))
    if word == "loop":
        return (word, source.choice(NAMES), kids[0], source.randint(0, 12), kids[1])
    if word == "call":
        return (word, source.choice(NAMES), tuple(kids))
    return (word,) + tuple(kids)


def shares(source, whole, count):
    marks = sorted(source.sample(range(1, whole), count - 1))
    return [high - low for low, high in zip([0] + marks, marks + [whole])]


def row(source, nodes, depth):
    word = source.choice(["unit", "take", "let", "fun", "show", "let", "fun", "show"])
    name = source.choice(NAMES)
    if word == "unit":
        return (word, name)
    if word == "take":
        return (word, name, source.choice(UNITS[1:]))
    told = expression(source, source.randint(1, nodes), depth)
    if word == "let":
        return (word, name, told)
    if word == "fun":
        return (word, name, tuple(source.choice(NAMES) for param in range(source.randint(1, 3))), told)
    return (word, told)


def program(source, nodes=12, depth=6):
    rows = [row(source, nodes, depth) for count in range(source.randint(1, 16))]
    while sum(one[0] == "unit" for one in rows) > 6:
        rows.remove(next(one for one in rows if one[0] == "unit"))
    return tuple(rows)


def loose_number(source, amount, unit):
    above, below = amount
    factor = source.choice([1, 1, 2, 3]) if max(above, below) < 1000 else 1
    text = str(above * factor) if below * factor == 1 else f"{above * factor}:{below * factor}"
    if unit is None or (unit == () and above != 0 and source.random() < 0.5):
        return [text]
    words = [name if exponent == 1 else f"{name}^{exponent}" for name, exponent in unit]
    source.shuffle(words)
    return [text, "[" + " ".join(words) + "]"]


def loose_pieces(source, told):
    """A list of pieces that write an expression, with brackets about each part."""
    word = told[0]
    if word == "number":
        return loose_number(source, told[1], told[2])
    if word == "name":
        return [told[1]]
    if word == "negative":
        return ["-"] + bracketed(source, told[1])
    if word == "power":
        return bracketed(source, told[1]) + [f"^{told[2]}"]
    if word == "if":
        parts = [loose_pieces(source, kid) for kid in told[1:]]
        return ["if"] + parts[0] + ["<"] + parts[1] + ["then"] + parts[2] + ["else"] + parts[3]
    if word == "loop":
        rounds = source.choice([str(told[3]), f"{told[3] * 7}:7"])
        return (["loop", told[1], "="] + loose_pieces(source, told[2]) + ["for", rounds, "do"]
                + loose_pieces(source, told[4]))
    if word == "call":
        parts = [told[1], "("]
        for place, kid in enumerate(told[2]):
            parts += ([","] if place else []) + loose_pieces(source, kid)
        return parts + [")"]
    sign = {"plus": "+", "minus": "-", "times": "*", "over": "/"}[word]
    return bracketed(source, told[1]) + [sign] + bracketed(source, told[2])


def bracketed(source, told):
    return ["("] + loose_pieces(source, told) + [")"]


def loose_row(source, row):
    if row[0] == "unit":
        return ["unit", row[1]]
    if row[0] == "take":
        words = [name if exponent == 1 else f"{name}^{exponent}" for name, exponent in row[2]]
        source.shuffle(words)
        return ["take", row[1], "[" + " ".join(words) + "]"]
    if row[0] == "let":
        return ["let", row[1], "="] + loose_pieces(source, row[2])
    if row[0] == "fun":
        params = [piece for param in row[2] for piece in (",", param)][1:]
        return ["fun", row[1], "("] + params + [")", "="] + loose_pieces(source, row[3])
    return ["show"] + loose_pieces(source, row[1])


def spaced(source, pieces):
    """A row's text with blanks here and there, and wherever two pieces would else be one."""
    text = ""
    for piece in pieces:
        blanks = source.choice([0, 0, 1, 3])
        if text and text[-1].isalnum() and piece[0].isalnum():
            blanks = max(blanks, 1)
        text += " " * blanks + piece
    return text + " " * source.choice([0, 0, 2])


def loose_text(source, program):
    return "\n".join(spaced(source, loose_row(source, row)) for row in program)
