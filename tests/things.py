"""What the tests share: things of many kinds, to hand in where a refusal or False is told for anything; functions that
note their calls; sheets made in one go."""

from lazycols.sheets import Sheet

SIXTY = 10 ** 60 - 1
SIXTY_ONE = 10 ** 60


class Prickly:
    """Raises at whatever is asked of it but its kind."""

    def refuse(self, *others):
        raise RuntimeError("nothing is to be asked of this thing")

    __eq__ = __ne__ = __lt__ = __le__ = __gt__ = __ge__ = refuse
    __bool__ = __len__ = __iter__ = __repr__ = __str__ = __hash__ = refuse
    __getitem__ = __contains__ = __int__ = __index__ = __abs__ = refuse


def neither():
    """Things that are no whole number, text, tuple, list or dict."""
    return [
        None, True, False, 0.0, 1.0, 1.5, float("nan"), float("inf"), 1j, b"a", bytearray(b"a"),
        object(), Prickly(), len, int, str, {1}, frozenset("a"), range(3), iter([1]), ValueError("a"), ...,
    ]


def no_wholes():
    return neither() + ["", "1", "a", (), (1,), [], [1], {}, {1: 1}]


def no_names():
    wrong = [
        "", "a" * 9, "A", "aB", "a1", "1", "a b", " a", "a ", "a\n", "\n", "abcdefgh\n", "a\n\n", "a\r", "a\t",
        "a_b", "_", "-", "a.b", "\x00", "a\x00", "`", "{", "\u00e9", "\u00df", "\u0430", "\u0131", "a" * 2000,
    ]
    return neither() + wrong + [0, 1, -1, SIXTY_ONE, (), ("a",), [], ["a"], {}, {"a": 1}]


def no_values():
    wrong = [
        SIXTY_ONE, -SIXTY_ONE, 10 ** 100, -(10 ** 100), 10 ** 5000,
        "", "1", "a", "fault", [], [1], ["fault", "odd"], {}, {"fault": "odd"}, (), (1,), ("fault",), (1, 2),
        ("fault", ""), ("fault", "a" * 9), ("fault", "Odd"), ("fault", "odd\n"), ("fault", 1), ("fault", None),
        ("fault", ["odd"]), ("fault", ("fault", "odd")), ("fault", True), ("fault", Prickly()), (Prickly(), "odd"),
        ("Fault", "odd"), ("faults", "odd"), ("odd", "fault"), (b"fault", "odd"), ("fault", "odd", "odd"),
    ]
    return neither() + wrong


def no_places(places):
    """What is no whole number from 0 to below places."""
    return no_wholes() + [-1, -2, -places, -places - 1, places, places + 1, SIXTY_ONE, -SIXTY_ONE]


class Notes:
    """Makes functions that note each list that they are called with."""

    def __init__(self):
        self.calls = []

    def made(self, label, reckon=sum):
        def function(some):
            self.calls.append((label, list(some)))
            return reckon(some)

        return function

    def taken(self):
        """The calls since this was asked last, sorted: their order isn't promised."""
        calls = sorted(self.calls)
        self.calls.clear()
        return calls


def stands(sheet):
    """All that a sheet tells without calling a function."""
    told = []
    for table in sheet.tables():
        for column in sheet.columns(table):
            ruled = sheet.is_ruled(table, column)
            values = None if ruled else sheet.stretch(table, column, 0, sheet.many(table))
            told.append((table, column, ruled, values))
        told.append((table, sheet.many(table)))
    return told


def sheet_of(tables):
    """A sheet of tables, told as dicts from columns to lists of values or rules."""
    sheet = Sheet()
    for name, (many, columns) in tables.items():
        sheet.table(name, many)
        for column, content in columns.items():
            if isinstance(content, list):
                sheet.give(name, column, content)
            else:
                sheet.rule(name, column, content)
    return sheet
