"""Rules and values as texts."""

from lazycols.errors import NoText, NoValue
from lazycols.reckonings import bounded, is_reckoning, names_in, reckoned
from lazycols.rules import MOST_NAMES, Above, Cells, Group, Lookup, Mend
from lazycols.values import fault, is_fault, is_name
from lazycols.words import writes_number

UP = "up"


def sum_of(numbers):
    return bounded(sum(numbers))


def most_of(numbers):
    return max(numbers)


def least_of(numbers):
    return min(numbers)


def how_many(numbers):
    return len(numbers)


OF_GROUPS = {"sum": sum_of, "most": most_of, "least": least_of, "many": how_many}


def refuse_unless(holds):
    if not holds:
        raise NoText("the text writes no rule")


def check_names(words):
    for word in words:
        refuse_unless(is_name(word))


# The names in a reckoning's words that stand for columns.
def columns_in(words, others):
    refuse_unless(is_reckoning(words))
    names = [name for name in names_in(words) if name not in others]
    refuse_unless(len(names) <= MOST_NAMES)
    return names


def function_of(words, names):
    return lambda numbers: reckoned(words, dict(zip(names, numbers)))


def read_cells(words):
    names = columns_in(words, [])
    return Cells(names, function_of(words, names))


def read_above(words):
    refuse_unless(len(words) > 0 and writes_number(words[0]))
    reckoning = words[1:]
    names = columns_in(reckoning, [UP])
    return Above(int(words[0]), names, function_of(reckoning, [UP] + names))


def read_group(words):
    refuse_unless(len(words) == 3 and words[2] in OF_GROUPS)
    check_names(words[:2])
    return Group(words[0], words[1], OF_GROUPS[words[2]])


def read_lookup(words):
    refuse_unless(len(words) == 4)
    check_names(words)
    return Lookup(words[0], words[1], words[2], [words[3]], lambda numbers: numbers[0])


def read_mend(words):
    refuse_unless(len(words) == 2 and writes_number(words[1]))
    check_names(words[:1])
    number = int(words[1])
    return Mend(words[0], lambda numbers: number)


KINDS = {"cells": read_cells, "above": read_above, "group": read_group, "lookup": read_lookup, "mend": read_mend}


def read_rule(text):
    refuse_unless(isinstance(text, str))
    words = text.split(" ")
    refuse_unless(words[0] in KINDS)
    return KINDS[words[0]](words[1:])


# A total may be shown too, so a number has as many figures as it needs.
def show_value(value):
    if is_fault(value):
        return "!" + value[1]
    return str(value)


def read_value(text):
    if isinstance(text, str) and writes_number(text):
        return int(text)
    if isinstance(text, str) and text.startswith("!") and is_name(text[1:]):
        return fault(text[1:])
    raise NoValue("the text writes no value")
