"""Points 4 and 28: a desk told many rows of all kinds, in a drawn order, answers, refuses and calls as a plain model of
the document does. The model reads rows by patterns and reckonings as trees."""

import math
import re
import unittest
from fractions import Fraction
from unittest import mock

from lazycols import texts
from lazycols.desk import Desk
from lazycols.errors import ColsError
from test_promise import Chance, Model, Refused, is_fault, refuse
from things import SIXTY, Notes

NAME = "[a-z]{1,8}"
NUMBER = "0|-?[1-9][0-9]{0,59}"
SIGNS = ["+", "-", "*", "/", ":", "<", "="]

FORMS = {
    "table": "T N", "give": "T C ..", "rule": "T C TEXT", "put": "T C P V", "in": "T P ..", "out": "T P", "back": "",
    "cell": "T C P", "column": "T C", "total": "T C", "came": "T C P", "some": "T C D", "order": "T C D",
    "beside": "T K U C D", "through": "T K U C D P V",
}
WORD = " ([^ ]*)"
MANY_WORDS = {"give": "((?: [^ ]*)*)", "in": "((?: [^ ]* [^ ]*)*)"}


def patterns():
    told = {}
    for first, form in FORMS.items():
        parts = {"TEXT": " (.*)", "..": MANY_WORDS.get(first)}
        told[first] = re.compile(first + "".join(parts.get(part, WORD) for part in form.split()), re.DOTALL)
    return told


PATTERNS = patterns()


def number_of(word, error):
    refuse(error, not re.fullmatch(NUMBER, word))
    return int(word)


def value_of(word):
    if re.fullmatch("!" + NAME, word):
        return ("fault", word[1:])
    return number_of(word, "NoValue")


def written(value):
    return "!" + value[1] if is_fault(value) else str(value)


def all_written(values):
    return " ".join(written(value) for value in values)


def tree_of(words):
    """The reckoning with which the words begin, as a tree, and the words behind it."""
    refuse("NoText", not words)
    word, *rest = words
    if word not in SIGNS:
        refuse("NoText", not re.fullmatch(NUMBER + "|" + NAME, word))
        return word, rest
    one, rest = tree_of(rest)
    other, rest = tree_of(rest)
    return (word, one, other), rest


def worth(tree, numbers):
    if isinstance(tree, str):
        return numbers[tree] if tree in numbers else int(tree)
    sign = tree[0]
    both = [worth(part, numbers) for part in tree[1:]]
    for value in both:
        if is_fault(value):
            return value
    one, other = both
    if sign in ["/", ":"] and other == 0:
        return ("fault", "nought")
    if sign in ["/", ":"]:
        quotient = math.floor(Fraction(one, other))
        told = quotient if sign == "/" else one - other * quotient
    else:
        told = {"+": one + other, "-": one - other, "*": one * other, "<": int(one < other), "=": int(one == other)}[sign]
    return told if len(str(abs(told))) <= 60 else ("fault", "great")


def reckoning(text, ahead):
    """The columns, and a function of the numbers of those ahead and then theirs."""
    words = text.split(" ")
    refuse("NoText", len(words) > 24)
    tree, rest = tree_of(words)
    refuse("NoText", rest)
    names = list(dict.fromkeys(word for word in words if re.fullmatch(NAME, word) and word not in ahead))
    refuse("NoText", len(names) > 6)
    return names, lambda numbers: worth(tree, dict(zip(ahead + names, numbers)))


def grand(numbers):
    return sum(numbers) if abs(sum(numbers)) < 10 ** 60 else ("fault", "great")


OF_GROUPS = {
    "sum": grand, "most": lambda numbers: sorted(numbers)[-1], "least": lambda numbers: sorted(numbers)[0], "many": len,
}


class Clerk(Model):
    """A model that is told rows."""

    def rule_of(self, text):
        """As the model has rules: the function goes by the text."""
        found = re.fullmatch("cells (.*)", text, re.DOTALL)
        if found:
            names, self.functions[text] = reckoning(found[1], [])
            return ("cells", names, text)
        found = re.fullmatch(f"above ({NUMBER}) (.*)", text, re.DOTALL)
        if found:
            names, self.functions[text] = reckoning(found[2], ["up"])
            return ("above", int(found[1]), names, text)
        found = re.fullmatch(f"group ({NAME}) ({NAME}) (sum|most|least|many)", text)
        if found:
            self.functions[text] = OF_GROUPS[found[3]]
            return ("group", found[1], found[2], text)
        found = re.fullmatch(f"lookup ({NAME}) ({NAME}) ({NAME}) ({NAME})", text)
        if found:
            self.functions[text] = lambda numbers: numbers[0]
            return ("lookup", found[1], found[2], found[3], [found[4]], text)
        found = re.fullmatch(f"mend ({NAME}) ({NUMBER})", text)
        refuse("NoText", not found)
        self.functions[text] = lambda numbers: int(found[2])
        return ("mend", found[1], text)

    def say(self, row):
        fitting = [first for first in PATTERNS if PATTERNS[first].fullmatch(row)]
        refuse("NoRow", not fitting)
        said = PATTERNS[fitting[0]].fullmatch(row).groups()
        told = getattr(self, "say_" + fitting[0])(*said)
        return "ok" if told is None else told

    def say_table(self, table, number):
        self.table(table, number_of(number, "NoPlace"))

    def say_give(self, table, column, words):
        self.give(table, column, [value_of(word) for word in words.split(" ")[1:]])

    def say_rule(self, table, column, text):
        self.rule(table, column, self.rule_of(text))

    def say_put(self, table, column, place, word):
        place = number_of(place, "NoPlace")
        self.put(table, column, place, value_of(word))

    def say_in(self, table, place, words):
        place = number_of(place, "NoPlace")
        words = words.split(" ")[1:]
        pairs = [(words[at], value_of(words[at + 1])) for at in range(0, len(words), 2)]
        refuse("NoValue", len(dict(pairs)) < len(pairs))
        self.put_in(table, place, dict(pairs))

    def say_out(self, table, place):
        self.take_out(table, number_of(place, "NoPlace"))

    def say_back(self):
        self.back()

    def say_cell(self, table, column, place):
        return written(self.cell(table, column, number_of(place, "NoPlace")))

    def say_column(self, table, column):
        return all_written(self.view(("whole", table), "shown", column))

    def say_total(self, table, column):
        return written(self.total(table, column))

    def say_came(self, table, column, place):
        cells = self.came_of(table, column, number_of(place, "NoPlace"))
        return " ".join("%s.%s.%d" % cell for cell in cells) or "none"

    def say_some(self, table, column, shown):
        return all_written(self.view(("some", ("whole", table), column), "shown", shown))

    def say_order(self, table, column, shown):
        return all_written(self.view(("ordered", ("whole", table), column), "shown", shown))

    def say_beside(self, table, key, other, theirs, shown):
        view = ("beside", ("whole", table), key, other, theirs)
        return all_written(self.view(view, "shown", other + "." + shown))

    def say_through(self, table, key, other, theirs, shown, place, word):
        place, value = number_of(place, "NoPlace"), value_of(word)
        view = ("beside", ("whole", table), key, other, theirs)
        self.view(view, "put", other + "." + shown, place, value)


class Scribe(Chance):
    """Writes rows, most of them such as aren't refused."""

    spoiling = [
        "", "", "x", "none", "A", "up", "-", "-0", "00", "01", "+1", "0", "1", "-1", "9" * 60, "9" * 61, "1\n", "!", "!bad",
        "!Bad", "!abcdefghi", "a", "t", "t.a", "ok", "\u0661", "=", "cells", "sum",
    ]

    def spoilt(self, row):
        words = row.split(" ")
        at = self.chance.randrange(len(words))
        word = self.chance.choice(self.spoiling)
        return " ".join(self.chance.choice([
            words[:at] + words[at + 1:], words[:at] + [word] + words[at:], words[:at] + [word] + words[at + 1:],
            words[:at] + [word] + words[at + 1:], words + [word], words[::-1], [row.replace(" ", word, 1)],
        ]))

    def number(self):
        return self.chance.choice(["0", "1", "2", "3", "-1", "-2", "10", "9" * 60, "-" + "9" * 60, "1" + "0" * 30])

    def reckoning(self, names, depth):
        if depth and self.chance.random() < 0.75:
            parts = [self.reckoning(names, depth - 1) for turn in "ab"]
            return " ".join([self.chance.choice(SIGNS), *parts])
        return self.one_of(names, self.number()) if self.chance.random() < 0.8 else self.number()

    def rule_text(self, table):
        names = list(self.model.state[table]["columns"]) if table in self.model.state else []
        other = self.table()
        depth = self.chance.choice([0, 1, 1, 1, 2, 2, 3, 4])
        return self.chance.choice([
            lambda: "cells " + self.reckoning(names, depth),
            lambda: "cells " + self.reckoning(names, depth),
            lambda: f"above {self.number()} " + self.reckoning(names + ["up"] * (len(names) + 1), depth),
            lambda: f"group {self.column(table)} {self.column(table)} " + self.chance.choice(list(OF_GROUPS)),
            lambda: f"lookup {self.column(table)} {other} {self.column(other)} {self.column(other)}",
            lambda: f"mend {self.column(table)} {self.number()}",
        ])()

    def told(self, asked):
        """A change or a look of the model's kind, as a row."""
        kind, *handed = asked
        if kind == "give":
            return " ".join(["give", handed[0], handed[1]] + [written(value) for value in handed[2]])
        if kind == "rule":
            return f"rule {handed[0]} {handed[1]} " + self.rule_text(handed[0])
        if kind == "put":
            return " ".join(["put", handed[0], handed[1], str(handed[2]), written(handed[3] or 0)])
        if kind == "put_in":
            pairs = list(handed[2].items())
            self.chance.shuffle(pairs)
            if self.chance.random() < 0.05:
                pairs = pairs + pairs[:1]
            return " ".join([f"in {handed[0]} {handed[1]}"] + [f"{column} {written(value)}" for column, value in pairs])
        return " ".join([{"take_out": "out"}.get(kind, kind)] + [str(word) for word in handed])

    def look_row(self):
        table, other = self.table(), self.table()
        column = self.column(table)
        place = self.place(table)
        beside = f"{table} {column} {other} {self.column(other)} {self.column(other)}"
        return self.chance.choice([
            f"cell {table} {column} {place}", f"cell {table} {column} {place}", f"column {table} {column}",
            f"column {table} {column}", f"total {table} {column}", f"came {table} {column} {place}",
            f"some {table} {column} {self.column(table)}", f"order {table} {column} {self.column(table)}",
            "beside " + beside, f"through {beside} {place} {written(self.value())}",
        ])

    def row(self):
        row = self.chance.choice([lambda: self.told(self.change()), self.look_row])()
        return self.spoilt(row) if self.chance.random() < 0.1 else row

    def rows(self, many, back):
        """Each is drawn when it is asked for, as it goes by how the model stands then; at the end all is taken back."""
        for asked in self.first():
            yield self.told(asked)
        for turn in range(many):
            yield self.row()
        for turn in range(back):
            yield "back"
            yield self.look_row()


def answered(desk, notes, row):
    """As the model tells it: the answer or the refusal's name, and the calls."""
    try:
        told = ("told", desk.say(row))
    except ColsError as error:
        told = ("refused", type(error).__name__)
    return told, notes.taken()


class Session(unittest.TestCase):
    def goes_as_the_clerk(self, seed):
        clerk, desk, notes = Clerk(), Desk(), Notes()
        scribe = Scribe(seed, clerk)
        told = []

        def read_noted(text):
            rule = texts.read_rule(text)
            rule.function = notes.made(text, rule.function)
            return rule

        with mock.patch("lazycols.desk.read_rule", read_noted):
            for row in scribe.rows(120, 120 if seed % 10 == 0 else 0):
                expected = clerk.ask("say", row)
                self.assertEqual(answered(desk, notes, row), expected, (seed, len(told), row))
                told.append((row.partition(" ")[0], expected))
        return told

    def test_against_the_model(self):
        told = []
        for seed in range(250):
            told = told + self.goes_as_the_clerk(seed)
        # The drawing is worth something only if it comes to all of these, and not once.
        firsts = [first for first, (answer, called) in told if answer[0] == "told"]
        for first in FORMS:
            self.assertGreater(firsts.count(first), 100, first)
        refusals = [answer[1] for first, (answer, called) in told if answer[0] == "refused"]
        for error in ColsError.__subclasses__():
            self.assertGreater(refusals.count(error.__name__), 5, error.__name__)
        answers = [word for first, (answer, called) in told if answer[0] == "told" for word in answer[1].split(" ")]
        for word in ["!nought", "!great", "!lacks", "!bad", "none", "0", "-1", str(SIXTY)]:
            self.assertGreater(answers.count(word), 20, word)
        calls = [text.partition(" ")[0] for first, (answer, called) in told for text, numbers in called]
        for kind in ["cells", "above", "group", "lookup", "mend"]:
            self.assertGreater(calls.count(kind), 50, kind)


class TheModel(unittest.TestCase):
    """What the model tells of rows that are plain to see, so that it isn't wrong where the desk is."""

    def test_some_rows(self):
        clerk = Clerk()
        for row, told in [
            ("table t 2", "ok"), ("give t a 7 -7", "ok"), ("rule t b cells / a 2", "ok"), ("column t b", "3 -4"),
            ("rule t c above 10 - up a", "ok"), ("column t c", "3 10"), ("came t c 1", "t.a.0 t.a.1"), ("total t b", "-1"),
            ("rule t d cells / 1 + a 7", "ok"), ("cell t d 1", "!nought"), ("back", "ok"), ("order t a b", "-4 3"),
        ]:
            self.assertEqual(clerk.ask("say", row)[0], ("told", told))
        for row, word in {
            "column t d": "NoColumn", "cell t a 2": "NoPlace", "cell t a 02": "NoPlace", "back ": "NoRow",
            "rule t d cells": "NoText", "give t d 1 2 !": "NoValue", "rule t a cells c": "Ring", "": "NoRow",
        }.items():
            self.assertEqual(clerk.ask("say", row)[0], ("refused", word))
        with self.assertRaises(Refused):
            clerk.say("table t 1")


if __name__ == "__main__":
    unittest.main()
