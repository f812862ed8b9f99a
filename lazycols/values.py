"""What a cell may hold: whole numbers and faults; and the names of columns and tables."""

from lazycols.errors import NoName

LETTERS = "abcdefghijklmnopqrstuvwxyz"
MOST_LETTERS = 8
ODD = ("fault", "odd")


# Python counts True and False as ints; here they are truths, no numbers.
def is_whole(thing):
    return isinstance(thing, int) and not isinstance(thing, bool)


def is_number(thing):
    return is_whole(thing) and abs(thing) < 10 ** 60


def is_name(thing):
    if not isinstance(thing, str) or not 1 <= len(thing) <= MOST_LETTERS:
        return False
    return all([sign in LETTERS for sign in thing])


# Kinds are asked ahead of == so that things with an == of their own never come to it.
def is_fault(thing):
    if not isinstance(thing, tuple) or len(thing) != 2:
        return False
    return isinstance(thing[0], str) and thing[0] == "fault" and is_name(thing[1])


def is_value(thing):
    return is_number(thing) or is_fault(thing)


def fault(word):
    if not is_name(word):
        raise NoName("a fault's word is one to eight small letters")
    return ("fault", word)


def settled(thing):
    if is_value(thing):
        return thing
    return ODD
