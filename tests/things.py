"""What the tests share: things of many kinds, to hand in where a refusal or False is told for anything; functions that
note their calls; tables that note looks; sheets made in one go."""

import unittest

from lazycols.sheets import Sheet

SIXTY = 10 ** 60 - 1
SIXTY_ONE = 10 ** 60


class Prickly:
    """Raises at whatever is asked of it but its kind."""

    def refuse(self, *others):
        raise RuntimeError("nothing is to be asked of this thing")

    __eq__ = __ne__ = __lt__ = __le__ = __gt__ = __ge__ = refuse
    __bool__ = __len__ = __iter__ = __repr__ = __str__ = __hash__ = refuse
    __getitem__ = __contains__ = __int__ = __index__ = __abs__ = refuse


def neither():
    """Things that are no whole number, text, tuple, list or dict."""
    return [
        None, True, False, 0.0, 1.0, 1.5, float("nan"), float("inf"), 1j, b"a", bytearray(b"a"),
        object(), Prickly(), len, int, str, {1}, frozenset("a"), range(3), iter([1]), ValueError("a"), ...,
    ]


def no_texts():
    right = "cells 1"
    return neither() + [0, 1, -1, SIXTY_ONE, right.encode(), (), (right,), [], [right], list(right), {}, {right: right}]


def written_numbers():
    """Words that write numbers, with these."""
    numbers = [0, 1, -1, 7, 10, -10, 100, 102, 10 ** 59, -(10 ** 59), SIXTY, -SIXTY]
    written = {"0": 0, "-7": -7, "1" + "0" * 59: 10 ** 59, "9" * 60: SIXTY, "-" + "9" * 60: -SIXTY}
    return {**{str(number): number for number in numbers}, **written}


def unwritten_numbers():
    """Words without blanks that write no number."""
    return [
        "", "-", "-0", "00", "000", "01", "-01", "-00", "0" * 60, "0" + "1" * 59, "+1", "+0", "+", "--1", "1-", "-1-",
        "1" + "0" * 60, "9" * 61, "-1" + "0" * 60, "-" + "9" * 61, "1" * 100, "1" * 2000,
        "1.0", "1.", "1,0", "1_0", "1e1", "0x1", "0b1", "1a", "a1", "-a", "!1", "\"1\"", "(1)", "[]", "None", "True",
        "1\n", "\n1", "1\t", "\t1", "1\r", "\x0b1", "1\x0c", "1\x1c", "1\x00", "\u00a01", "1\u2003", "\u20281",
        "\uff11", "\u0661", "1\u0661", "\u00b2", "\u00bd", "\u2460", "\u22121", "\u20131", "1\u0301", "\U0001d7cf",
    ]


def no_wholes():
    return neither() + ["", "1", "a", (), (1,), [], [1], {}, {1: 1}]


def no_names():
    wrong = [
        "", "a" * 9, "A", "aB", "a1", "1", "a b", " a", "a ", "a\n", "\n", "abcdefgh\n", "a\n\n", "a\r", "a\t",
        "a_b", "_", "-", "a.b", "\x00", "a\x00", "`", "{", "\u00e9", "\u00df", "\u0430", "\u0131", "a" * 2000,
    ]
    return neither() + wrong + [0, 1, -1, SIXTY_ONE, (), ("a",), [], ["a"], {}, {"a": 1}]


def no_values():
    wrong = [
        SIXTY_ONE, -SIXTY_ONE, 10 ** 100, -(10 ** 100), 10 ** 5000,
        "", "1", "a", "fault", [], [1], ["fault", "odd"], {}, {"fault": "odd"}, (), (1,), ("fault",), (1, 2),
        ("fault", ""), ("fault", "a" * 9), ("fault", "Odd"), ("fault", "odd\n"), ("fault", 1), ("fault", None),
        ("fault", ["odd"]), ("fault", ("fault", "odd")), ("fault", True), ("fault", Prickly()), (Prickly(), "odd"),
        ("Fault", "odd"), ("faults", "odd"), ("odd", "fault"), (b"fault", "odd"), ("fault", "odd", "odd"),
    ]
    return neither() + wrong


def no_places(places):
    """What is no whole number from 0 to below places."""
    return no_wholes() + [-1, -2, -places, -places - 1, places, places + 1, SIXTY_ONE, -SIXTY_ONE]


class Notes:
    """Makes functions that note each list that they are called with."""

    def __init__(self):
        self.calls = []

    def made(self, label, reckon=sum):
        def function(some):
            self.calls.append((label, list(some)))
            return reckon(some)

        return function

    def taken(self):
        """The calls since this was asked last, sorted: their order isn't promised."""
        calls = sorted(self.calls)
        self.calls.clear()
        return calls


def stands(sheet):
    """All that a sheet tells without calling a function."""
    told = []
    for table in sheet.tables():
        for column in sheet.columns(table):
            ruled = sheet.is_ruled(table, column)
            values = None if ruled else sheet.stretch(table, column, 0, sheet.many(table))
            told.append((table, column, ruled, values))
        told.append((table, sheet.many(table)))
    return told


def sheet_of(tables):
    """A sheet of tables, told as dicts from columns to lists of values or rules."""
    sheet = Sheet()
    for name, (many, columns) in tables.items():
        sheet.table(name, many)
        for column, content in columns.items():
            if isinstance(content, list):
                sheet.give(name, column, content)
            else:
                sheet.rule(name, column, content)
    return sheet


class Board:
    """Tables of columns, that note each look in turn."""

    def __init__(self, tables, rows):
        self.tables = tables
        self.rows = rows
        self.looks = []

    def look(self, table, column, place):
        self.looks.append((table, column, place))
        if place < 0:
            raise IndexError("no cell stands ahead of place 0")
        return self.tables[table][column][place]

    def many(self, table):
        return self.rows[table]


class RuleTest(unittest.TestCase):
    def gathers(self, rule, board, place, told, looks):
        """In table t, for a cell of column x: what is told, and just which looks, in their order."""
        board.looks = []
        found = rule.gather(board.look, board.many, "t", "x", place)
        self.assertIsInstance(found, tuple)
        self.assertEqual(found, told)
        self.assertEqual(board.looks, looks)

    def in_t(self, *looks):
        return [("t", column, place) for column, place in looks]
