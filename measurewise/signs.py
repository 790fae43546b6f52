"""What whole numbers, names and texts are."""

from measurewise.errors import BadName, BadNumber

WORDS = ("unit", "take", "let", "fun", "show", "if", "then", "else", "loop", "for", "do")
MOST_LETTERS = 8
MOST_SIGNS = 4000


def is_whole(thing):
    # Python counts True and False among the ints.
    return isinstance(thing, int) and not isinstance(thing, bool)


def is_small_letter(sign):
    return "a" <= sign <= "z"


def is_text_sign(sign):
    return " " <= sign <= "~" or sign == "\n"


def is_name(thing):
    if not isinstance(thing, str) or not 1 <= len(thing) <= MOST_LETTERS:
        return False
    return all([is_small_letter(sign) for sign in thing]) and thing not in WORDS


def is_text(thing):
    if not isinstance(thing, str) or len(thing) > MOST_SIGNS:
        return False
    return all([is_text_sign(sign) for sign in thing])


def need_whole(thing, least, most=None):
    if not is_whole(thing):
        raise BadNumber("no whole number")
    if thing < least:
        raise BadNumber("less than the least")
    if most is not None and thing > most:
        raise BadNumber("more than the most")
    return thing


def need_name(thing):
    if not is_name(thing):
        raise BadName("no name")
    return thing
