"""Point 4: whatever was changed, in whatever order and with whatever looks between, each look tells what the rules
tell, and calls just what it should. Told here by a plain model that keeps a copy of all ahead of each change."""

import copy
import random
import re
import unittest

from lazycols import rules, views
from lazycols.errors import ColsError
from lazycols.sheets import Sheet
from things import Notes

BAD = ("fault", "bad")
LACKS = ("fault", "lacks")
ODD = ("fault", "odd")
KINDS = {"cells": rules.Cells, "above": rules.Above, "group": rules.Group, "lookup": rules.Lookup, "mend": rules.Mend}
SHOWN = {
    "whole": views.Whole, "some": views.Some, "ordered": views.Ordered, "cut": views.Cut, "together": views.Together,
    "beside": views.Beside,
}
FUNCTIONS = {
    "sum": sum, "few": lambda some: sum(some) % 3, "many": len, "least": lambda some: min(some, default=0),
    "ill": lambda some: ("fault", "ill") if sum(some) % 2 else 1, "odd": lambda some: None, "one": lambda some: 1,
    "great": lambda some: 10 ** 59 * sum(some),
}


def is_fault(value):
    return isinstance(value, tuple)


class Refused(Exception):
    def __init__(self, word):
        self.word = word


def refuse(word, due):
    if due:
        raise Refused(word)


def is_name(word):
    return re.fullmatch("[a-z]{1,8}", word)


class Model:
    def __init__(self):
        self.functions = dict(FUNCTIONS)
        self.state = {}
        self.past = []
        self.spent = {}
        self.memory = {}
        self.calls = []
        self.found = {}

    def keep(self, *forgotten):
        """Ahead of a change: all as it stands, and what is forgotten when it is taken back."""
        self.past.append((copy.deepcopy(self.state), forgotten))

    def forget(self, *start):
        self.memory = {cell: kept for cell, kept in self.memory.items() if cell[:len(start)] != start}

    def of(self, table, column=None):
        refuse("NoTable", table not in self.state)
        refuse("NoColumn", column is not None and column not in self.state[table]["columns"])
        return self.state[table]

    def table(self, name, many):
        refuse("NoName", name in self.state or not is_name(name))
        refuse("NoSize", not 0 <= many <= 30)
        refuse("TooMuch", len(self.state) == 4)
        mark = len(self.spent)
        self.keep(mark)
        self.state[name] = {"mark": mark, "rows": list(range(many)), "columns": {}}
        self.spent[mark] = many

    def set_column(self, table, column, content):
        mark = self.state[table]["mark"]
        self.keep(mark, column)
        self.forget(mark, column)
        self.state[table]["columns"][column] = content

    def give(self, table, column, values):
        at = self.of(table)
        refuse("NoName", not is_name(column))
        refuse("TooMuch", column not in at["columns"] and len(at["columns"]) == 8)
        refuse("NoValue", len(values) != len(at["rows"]))
        self.set_column(table, column, dict(zip(at["rows"], values)))

    def rule(self, table, column, rule):
        at = self.of(table)
        refuse("NoName", not is_name(column))
        refuse("TooMuch", column not in at["columns"] and len(at["columns"]) == 8)
        for other, name in self.leans(table, rule):
            there = other in self.state and name in self.state[other]["columns"]
            refuse("NoColumn", not there and (other, name) != (table, column))
        refuse("Ring", self.reaches((table, column), self.leans(table, rule), []))
        self.set_column(table, column, rule)

    def leans(self, table, rule):
        kind, *named, function = rule
        if kind == "lookup":
            return [(table, named[0])] + [(named[1], name) for name in [named[2]] + named[3]]
        names = {"cells": lambda: named[0], "above": lambda: named[1]}.get(kind, lambda: named)()
        return [(table, name) for name in names]

    def reaches(self, spot, leans, seen):
        for leant in leans:
            if leant == spot:
                return True
            if leant not in seen:
                seen.append(leant)
                content = self.state[leant[0]]["columns"][leant[1]]
                if isinstance(content, tuple) and self.reaches(spot, self.leans(leant[0], content), seen):
                    return True
        return False

    def put(self, table, column, place, value):
        at = self.of(table, column)
        refuse("Ruled", isinstance(at["columns"][column], tuple))
        refuse("NoPlace", not 0 <= place < len(at["rows"]))
        refuse("NoValue", value is None)
        self.keep("nothing")
        at["columns"][column][at["rows"][place]] = value

    def put_in(self, table, place, values):
        at = self.of(table)
        given = [column for column in at["columns"] if isinstance(at["columns"][column], dict)]
        refuse("NoPlace", not 0 <= place <= len(at["rows"]))
        refuse("TooMuch", len(at["rows"]) == 30)
        refuse("NoValue", sorted(values) != sorted(given))
        self.keep("nothing")
        number = self.spent[at["mark"]]
        self.spent[at["mark"]] = number + 1
        at["rows"].insert(place, number)
        for column in given:
            at["columns"][column][number] = values[column]

    def take_out(self, table, place):
        at = self.of(table)
        refuse("NoPlace", not 0 <= place < len(at["rows"]))
        self.keep("nothing")
        at["rows"].pop(place)

    def back(self):
        refuse("NoBack", not self.past)
        self.state, forgotten = self.past.pop()
        self.forget(*forgotten)

    def tables(self):
        return list(self.state)

    def columns(self, table):
        return list(self.of(table)["columns"])

    def many(self, table):
        return len(self.of(table)["rows"])

    def is_ruled(self, table, column):
        return isinstance(self.of(table, column)["columns"][column], tuple)

    def cell(self, table, column, place):
        at = self.of(table, column)
        refuse("NoPlace", not 0 <= place < len(at["rows"]))
        return self.value(table, column, place)

    def stretch(self, table, column, start, end):
        at = self.of(table, column)
        refuse("NoPlace", not 0 <= start <= end <= len(at["rows"]))
        return [self.value(table, column, place) for place in range(start, end)]

    def total(self, table, column):
        found = 0
        for place in range(len(self.of(table, column)["rows"])):
            value = self.value(table, column, place)
            if is_fault(value):
                return value
            found += value
        return found

    def came_of(self, table, column, place):
        self.cell(table, column, place)
        return sorted(self.found[(table, column, place)][1])

    def value(self, table, column, place):
        """The cell's value; with it is kept, for this look, what it came of."""
        cell = (table, column, place)
        if cell not in self.found:
            at = self.state[table]
            number, content = at["rows"][place], at["columns"][column]
            if isinstance(content, dict):
                self.found[cell] = (content[number], {cell})
            else:
                came = set()
                told = self.gathered(content, cell, came)
                if isinstance(told, list):
                    told = self.called(content[-1], (at["mark"], column, number), told)
                self.found[cell] = (told, came)
        return self.found[cell][0]

    def called(self, name, mark, numbers):
        if mark not in self.memory or self.memory[mark][0] != numbers:
            self.calls.append((name, numbers))
            told = self.functions[name](numbers)
            right = is_fault(told) or isinstance(told, int) and abs(told) < 10 ** 60
            self.memory[mark] = (numbers, told if right else ODD)
        return self.memory[mark][1]

    def gathered(self, rule, cell, came):
        """A list to call the function with, or a value."""
        def look(*leant):
            value = self.value(*leant)
            came.update(self.found[leant][1])
            return value

        def in_turn(numbers, cells):
            for leant in cells:
                value = look(*leant)
                if is_fault(value):
                    return value
                numbers = numbers + [value]
            return numbers

        kind, *named, function = rule
        table, column, place = cell
        if kind == "cells":
            return in_turn([], [(table, name, place) for name in named[0]])
        if kind == "above":
            first, above = ([named[0]], []) if place == 0 else ([], [(table, column, place - 1)])
            return in_turn(first, above + [(table, name, place) for name in named[1]])
        if kind == "mend":
            value = look(table, named[0], place)
            return [] if is_fault(value) else value
        key = look(table, named[0], place)
        if is_fault(key):
            return key
        if kind == "group":
            numbers = []
            for row in range(self.many(table)):
                if look(table, named[0], row) == key:
                    numbers = in_turn(numbers, [(table, named[1], row)])
                    if is_fault(numbers):
                        break
            return numbers
        for row in range(self.many(named[1])):
            if look(named[1], named[2], row) == key:
                return in_turn([], [(named[1], name, row) for name in named[3]])
        return LACKS

    def view_columns(self, view):
        """Told from scratch, with what is refused when the view is made."""
        kind, *named = view
        if kind == "whole":
            return self.columns(named[0])
        columns = self.view_columns(named[0])
        if kind == "together":
            others = self.view_columns(named[1])
            return [column for column in columns if column in others]
        if kind == "beside":
            added = self.columns(named[2])
            refuse("NoColumn", named[1] not in columns or named[3] not in added)
            columns = columns + [named[2] + "." + column for column in added]
            refuse("NoName", len(set(columns)) < len(columns))
            return columns
        if kind in ("some", "ordered"):
            refuse("NoColumn", named[1] not in columns)
        if kind == "cut":
            refuse("NoPlace", named[1] < 0 or named[2] < 0)
        return columns

    def view_rows(self, view):
        """Each row a dict from columns to functions that tell the spots, and what is shown where there are none."""
        kind, *named = view
        if kind == "whole":
            return [self.whole_row(named[0], place) for place in range(self.many(named[0]))]
        rows = self.view_rows(named[0])
        if kind == "together":
            return rows + self.view_rows(named[1])
        if kind == "cut":
            return rows[named[1]:][:named[2]]
        if kind == "beside":
            return [self.beside_row(row, *named[1:]) for row in rows]
        by = [(self.shown_in(row, named[1]), place) for place, row in enumerate(rows)]
        if kind == "some":
            return [rows[place] for value, place in by if not is_fault(value) and value]
        numbers = sorted((value, place) for value, place in by if not is_fault(value))
        return [rows[place] for value, place in numbers + [pair for pair in by if is_fault(pair[0])]]

    def whole_row(self, table, place):
        return {column: lambda name=column: ([(table, name, place)], None) for column in self.columns(table)}

    def beside_row(self, row, key, table, theirs):
        def spots(name):
            value = self.shown_in(row, key)
            if is_fault(value):
                return ([], value)
            keys = [self.value(table, theirs, place) for place in range(self.many(table))]
            return ([(table, name, place) for place, number in enumerate(keys) if number == value], LACKS)

        added = {table + "." + column: lambda name=column: spots(name) for column in self.columns(table)}
        return {**row, **added}

    def shown_in(self, row, column):
        spots, fault = row[column]()
        return self.value(*spots[0]) if spots else fault

    def view(self, view, method, *handed):
        columns = self.view_columns(view)
        if method == "columns":
            return columns
        refuse("NoColumn", method != "many" and handed[0] not in columns)
        rows = self.view_rows(view)
        if method == "many":
            return len(rows)
        if method == "shown":
            return [self.shown_in(row, handed[0]) for row in rows]
        refuse("NoPlace", not 0 <= handed[1] < len(rows))
        row = rows[handed[1]]
        if method == "look":
            return self.shown_in(row, handed[0])
        spots = row[handed[0]]()[0]
        if method == "spots":
            return spots
        refuse("Nobody", not spots)
        refuse("Several", len(spots) > 1)
        return self.put(*spots[0], handed[2])

    def ask(self, method, *handed):
        """("told", what) or ("refused", the error's name), and the calls."""
        self.found, self.calls = {}, []
        try:
            told = ("told", getattr(self, method)(*handed))
        except Refused as refused:
            told = ("refused", refused.word)
        return told, sorted(self.calls)


class Asker:
    """A sheet that is asked as the model is."""

    def __init__(self):
        self.sheet = Sheet()
        self.notes = Notes()

    def made_rule(self, rule):
        kind, *named, function = rule
        return KINDS[kind](*named, self.notes.made(function, FUNCTIONS[function]))

    def made_view(self, view):
        kind, *named = view
        if kind == "whole":
            return views.Whole(self.sheet, named[0])
        inner = self.made_view(named[0])
        if kind == "together":
            return views.Together(inner, self.made_view(named[1]))
        if kind == "beside":
            return views.Beside(inner, named[1], self.sheet, named[2], named[3])
        return SHOWN[kind](inner, *named[1:])

    def asked(self, method, handed):
        if method == "view":
            return getattr(self.made_view(handed[0]), handed[1])(*handed[2:])
        if method == "rule":
            handed = [handed[0], handed[1], self.made_rule(handed[2])]
        return getattr(self.sheet, method)(*handed)

    def ask(self, method, *handed):
        try:
            told = ("told", self.asked(method, handed))
        except ColsError as error:
            told = ("refused", type(error).__name__)
        return told, self.notes.taken()


class Chance:
    """Draws changes and askings, most of them such as aren't refused."""

    def __init__(self, seed, model):
        self.chance = random.Random(seed)
        self.model = model

    def one_of(self, things, otherwise):
        things = list(things)
        return self.chance.choice(things) if things and self.chance.random() < 0.97 else otherwise

    def table(self):
        return self.one_of(self.model.state, "none")

    def column(self, table):
        return self.one_of(self.model.state[table]["columns"], "none") if table in self.model.state else "none"

    def many(self, table):
        return len(self.model.state[table]["rows"]) if table in self.model.state else 0

    def place(self, table, more=0):
        return self.one_of(range(self.many(table) + more), self.many(table) + more)

    def value(self):
        return self.chance.choice([0, 1, 2, 3] * 4 + [-1, 10 ** 60 - 1, BAD])

    def names(self, table):
        return [self.column(table) for turn in range(self.chance.randint(0, 3))]

    def rule(self, table):
        kind = self.chance.choice(list(KINDS))
        function = self.chance.choice(list(FUNCTIONS))
        key, name, other = self.column(table), self.column(table), self.table()
        return {
            "cells": lambda: ("cells", self.names(table), function),
            "above": lambda: ("above", self.chance.randint(-1, 3), self.names(table), function),
            "group": lambda: ("group", key, name, function),
            "lookup": lambda: ("lookup", key, other, self.column(other), self.names(other), function),
            "mend": lambda: ("mend", name, function),
        }[kind]()

    def change(self):
        table = self.table()
        new = self.chance.choice("abcdefgh" + "A")
        kinds = ["table"] + ["give"] * 3 + ["rule"] * 8 + ["put"] * 8 + ["put_in"] * 3 + ["take_out"] * 2 + ["back"] * 4
        kind = self.chance.choice(kinds)
        if kind == "table":
            return kind, self.chance.choice("tuvwxT"), self.chance.choice([0, 1, 2, 3, 4, 5, 31])
        if kind == "give":
            return kind, table, new, [self.value() for turn in range(self.one_of([self.many(table)], 7))]
        if kind == "rule":
            return kind, table, self.one_of([new], self.column(table)), self.rule(table)
        if kind == "put":
            return kind, table, self.column(table), self.place(table), self.one_of([self.value()], None)
        if kind == "put_in":
            columns = self.model.state[table]["columns"] if table in self.model.state else {}
            given = [column for column in columns if isinstance(columns[column], dict)]
            return kind, table, self.place(table, 1), {column: self.value() for column in self.one_of([given], ["z"])}
        return (kind, table, self.place(table)) if kind == "take_out" else (kind,)

    def look(self):
        table = self.table()
        column = self.column(table)
        kind = self.chance.choice(["cell", "cell", "cell", "stretch", "total", "came_of", "told"])
        if kind in ("cell", "came_of"):
            return kind, table, column, self.place(table)
        if kind == "stretch":
            return kind, table, column, self.chance.choice([0, 0, 0, 1, -1]), self.place(table, 1)
        told = [("tables",), ("columns", table), ("many", table), ("is_ruled", table, column)]
        return ("total", table, column) if kind == "total" else self.chance.choice(told)

    def view(self, depth):
        kind = self.chance.choice(list(SHOWN)) if depth else "whole"
        if kind == "whole":
            return ("whole", self.table())
        inner = self.view(depth - 1)
        column = self.view_column(inner)
        if kind == "together":
            return (kind, inner, self.view(depth - 1))
        if kind == "cut":
            return (kind, inner, self.one_of([0, 0, 1, 2], -1), self.one_of([1, 2, 3, 4, 99], 0))
        if kind == "beside":
            table = self.table()
            return (kind, inner, column, table, self.column(table))
        return (kind, inner, column)

    def view_column(self, view):
        try:
            return self.one_of(self.model.view_columns(view), "none")
        except Refused:
            return "none"

    def view_asked(self):
        view = self.view(self.chance.randint(0, 5))
        column, place = self.view_column(view), self.one_of([0, 0, 0, 1, 1, 2], self.chance.choice([-1, 9]))
        method = self.chance.choice(["columns", "many", "look", "look", "shown", "spots", "spots", "put", "put"])
        handed = {"look": [column, place], "spots": [column, place], "shown": [column]}.get(method, [])
        return ("view", view, method, *([column, place, self.value()] if method == "put" else handed))

    def draw(self):
        return self.chance.choice([self.change, self.change, self.look, self.view_asked])()

    def first(self):
        """Changes to begin with, so that there is something to ask of."""
        told = [("table", "t", 4), ("table", "u", 3)]
        for table, many in [("t", 4), ("u", 3)]:
            told = told + [("give", table, column, [self.value() for turn in range(many)]) for column in "abk"]
        return told


class Promise(unittest.TestCase):
    def goes_as_the_model(self, seed):
        model, asker = Model(), Asker()
        chance = Chance(seed, model)
        ahead = chance.first()
        told = []
        while len(told) < 150:
            asked = ahead.pop(0) if ahead else chance.draw()
            expected = model.ask(*asked)
            self.assertEqual(asker.ask(*asked), expected, (seed, len(told), asked))
            told.append((asked[0], expected))
        return told

    def test_against_the_model(self):
        told = []
        for seed in range(200):
            told = told + self.goes_as_the_model(seed)
        # The drawing is worth something only if it comes to all of these, and not once.
        calls = [name for asked, (answer, called) in told for name, numbers in called]
        self.assertEqual(set(calls), set(FUNCTIONS))
        words = [answer[1] for asked, (answer, called) in told if answer[0] == "refused"]
        for word in [
            "NoTable", "NoName", "NoColumn", "NoSize", "NoPlace", "NoValue", "Ruled", "Ring", "TooMuch", "Nobody",
            "Several",
        ]:
            self.assertGreater(words.count(word), 5, word)
        views_told = [answer for asked, (answer, called) in told if asked == "view" and answer[0] == "told"]
        self.assertGreater(len(views_told), 1000)


if __name__ == "__main__":
    unittest.main()
