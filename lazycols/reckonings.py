"""Reckonings: words, each of them a number, a column's name, or a sign with two reckonings behind it."""

from lazycols.rules import each_once
from lazycols.values import is_fault, is_name, is_number
from lazycols.words import writes_number

MOST_WORDS = 24
SIGNS = ("+", "-", "*", "/", ":", "<", "=")
NOUGHT = ("fault", "nought")
GREAT = ("fault", "great")


def is_reckoning(words):
    if len(words) > MOST_WORDS:
        return False
    lacking = 1
    for word in words:
        if lacking == 0:
            return False
        if word in SIGNS:
            lacking = lacking + 1
        elif is_name(word) or writes_number(word):
            lacking = lacking - 1
        else:
            return False
    return lacking == 0


def names_in(words):
    return each_once([word for word in words if is_name(word)])


def bounded(number):
    if is_number(number):
        return number
    return GREAT


# From the last word back: the two reckonings behind a sign are reckoned when it is come to, the first one on top.
def reckoned(words, numbers):
    waiting = []
    for word in reversed(words):
        if word in SIGNS:
            one = waiting.pop()
            other = waiting.pop()
            waiting.append(joined(word, one, other))
        elif is_name(word):
            waiting.append(numbers[word])
        else:
            waiting.append(int(word))
    return waiting[0]


def joined(sign, one, other):
    if is_fault(one):
        return one
    if is_fault(other):
        return other
    if sign in ("/", ":") and other == 0:
        return NOUGHT
    return bounded(number_of(sign, one, other))


def number_of(sign, one, other):
    if sign == "+":
        return one + other
    if sign == "-":
        return one - other
    if sign == "*":
        return one * other
    if sign == "/":
        return one // other
    if sign == ":":
        return one % other
    if sign == "<":
        return 1 if one < other else 0
    return 1 if one == other else 0
