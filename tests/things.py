"""Things of many kinds, to hand in where a refusal or False is told for anything."""

SIXTY = 10 ** 60 - 1
SIXTY_ONE = 10 ** 60


class Prickly:
    """Raises at whatever is asked of it but its kind."""

    def refuse(self, *others):
        raise RuntimeError("nothing is to be asked of this thing")

    __eq__ = __ne__ = __lt__ = __le__ = __gt__ = __ge__ = refuse
    __bool__ = __len__ = __iter__ = __repr__ = __str__ = __hash__ = refuse
    __getitem__ = __contains__ = __int__ = __index__ = __abs__ = refuse


def neither():
    """Things that are no whole number, text, tuple, list or dict."""
    return [
        None, True, False, 0.0, 1.0, 1.5, float("nan"), float("inf"), 1j, b"a", bytearray(b"a"),
        object(), Prickly(), len, int, str, {1}, frozenset("a"), range(3), iter([1]), ValueError("a"), ...,
    ]


def no_wholes():
    return neither() + ["", "1", "a", (), (1,), [], [1], {}, {1: 1}]


def no_names():
    wrong = [
        "", "a" * 9, "A", "aB", "a1", "1", "a b", " a", "a ", "a\n", "\n", "abcdefgh\n", "a\n\n", "a\r", "a\t",
        "a_b", "_", "-", "a.b", "\x00", "a\x00", "`", "{", "\u00e9", "\u00df", "\u0430", "\u0131", "a" * 2000,
    ]
    return neither() + wrong + [0, 1, -1, SIXTY_ONE, (), ("a",), [], ["a"], {}, {"a": 1}]


def no_values():
    wrong = [
        SIXTY_ONE, -SIXTY_ONE, 10 ** 100, -(10 ** 100), 10 ** 5000,
        "", "1", "a", "fault", [], [1], ["fault", "odd"], {}, {"fault": "odd"}, (), (1,), ("fault",), (1, 2),
        ("fault", ""), ("fault", "a" * 9), ("fault", "Odd"), ("fault", "odd\n"), ("fault", 1), ("fault", None),
        ("fault", ["odd"]), ("fault", ("fault", "odd")), ("fault", True), ("fault", Prickly()), (Prickly(), "odd"),
        ("Fault", "odd"), ("faults", "odd"), ("odd", "fault"), (b"fault", "odd"), ("fault", "odd", "odd"),
    ]
    return neither() + wrong


def no_places(places):
    """What is no whole number from 0 to below places."""
    return no_wholes() + [-1, -2, -places, -places - 1, places, places + 1, SIXTY_ONE, -SIXTY_ONE]
