"""Things of every kind, to hand in where anything may be handed in."""

import decimal
import fractions


class Sullen:
    """Answers no question that is put to it: only its class may be looked at."""

    def refuse(self, *rest):
        raise RuntimeError("this was not to be asked")

    __eq__ = __ne__ = __lt__ = __le__ = __gt__ = __ge__ = refuse
    __len__ = __iter__ = __getitem__ = __contains__ = __bool__ = refuse
    __int__ = __index__ = __str__ = __repr__ = __mod__ = __rmod__ = refuse
    __hash__ = None


def no_numbers_no_texts():
    """A new list of things that are no whole numbers, texts, names or fractions."""
    return [
        None, True, False, 0.0, 1.0, -2.5, float("nan"), float("inf"), 1j, b"", b"abc", bytearray(b"abc"),
        [], [1], [1, 2], ["a"], (), (1,), (1, 2, 3), ("a", "b"), (1.0, 2), (1, 2.0), (None, 1), (1, None),
        {}, {1: 2}, {"a": 1}, set(), {1, 2}, frozenset((1, 2)), range(2), iter([1, 2]), object(), Sullen(),
        (Sullen(), 1), (1, Sullen()), [Sullen(), Sullen()], len, str, int, ValueError("a"),
        decimal.Decimal(1), fractions.Fraction(1, 2), nested(100), (nested(99), 1),
    ]


def nested(depth):
    thing = []
    for level in range(depth - 1):
        thing = [thing] if level % 2 else (thing,)
    return thing
