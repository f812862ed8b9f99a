"""Sheets: their changes, what is refused, and what each cell is (points 11 to 13, 18 and 19)."""

import unittest

from lazycols.errors import (
    ColsError, NoBack, NoColumn, NoName, NoPlace, NoSize, NoTable, NoValue, Ring, Ruled, TooMuch,
)
from lazycols.rules import Above, Cells, Group, Lookup, Mend
from lazycols.sheets import Sheet
from things import SIXTY, SIXTY_ONE, Notes, Prickly, no_names, no_places, no_values, no_wholes, sheet_of, stands

BAD = ("fault", "bad")
ILL = ("fault", "ill")
LACKS = ("fault", "lacks")
ODD = ("fault", "odd")
EIGHT = ["a", "b", "c", "d", "e", "f", "g", "h"]


def never(some):
    raise RuntimeError("nothing is to be called here")


class SheetTest(unittest.TestCase):
    def setUp(self):
        self.notes = Notes()

    def refused(self, error, sheet, method, *handed):
        """Refused by just this class, with nothing called and nothing changed behind it."""
        before = stands(sheet)
        self.notes.taken()
        with self.assertRaises(ColsError) as caught:
            getattr(sheet, method)(*handed)
        self.assertIs(type(caught.exception), error)
        self.assertEqual(self.notes.taken(), [])
        self.assertEqual(stands(sheet), before)
        return caught.exception

    def column(self, sheet, table, column):
        return sheet.stretch(table, column, 0, sheet.many(table))

    def small(self):
        """Two given columns and a ruled one in two rows, whose cells remember."""
        rule = Cells(["a", "b"], self.notes.made("s"))
        sheet = sheet_of({"t": (2, {"a": [1, 2], "b": [10, 20], "s": rule})})
        self.assertEqual(self.column(sheet, "t", "s"), [11, 22])
        self.notes.taken()
        return sheet


class Tables(SheetTest):
    def test_a_new_sheet_has_none(self):
        self.assertEqual(Sheet().tables(), [])

    def test_told_by_a_name_and_a_number_of_rows(self):
        for many in [0, 1, 2, 29, 30]:
            sheet = Sheet()
            self.assertIsNone(sheet.table("t", many))
            self.assertEqual((sheet.tables(), sheet.many("t"), sheet.columns("t")), (["t"], many, []))

    def test_in_the_order_in_which_they_came(self):
        sheet = sheet_of({"u": (1, {}), "t": (2, {}), "abcdefgh": (0, {}), "a": (30, {})})
        self.assertEqual(sheet.tables(), ["u", "t", "abcdefgh", "a"])
        self.assertEqual([sheet.many(table) for table in sheet.tables()], [1, 2, 0, 30])

    def test_no_fifth(self):
        sheet = sheet_of({name: (1, {}) for name in "tuvw"})
        self.refused(TooMuch, sheet, "table", "x", 1)
        self.assertEqual(sheet.tables(), ["t", "u", "v", "w"])

    def test_no_name(self):
        for name in no_names():
            self.refused(NoName, Sheet(), "table", name, 1)

    def test_a_name_by_which_one_stands(self):
        self.refused(NoName, sheet_of({"t": (1, {"a": [1]})}), "table", "t", 2)

    def test_no_size(self):
        for many in no_wholes() + [-1, 31, 32, SIXTY_ONE, -SIXTY_ONE]:
            self.refused(NoSize, sheet_of({"t": (1, {})}), "table", "u", many)

    def test_first_things_first(self):
        sheet = sheet_of({name: (1, {}) for name in "tuvw"})
        self.refused(NoName, sheet, "table", "T", 31)
        self.refused(NoName, sheet, "table", "t", 31)
        self.refused(NoName, sheet, "table", "w", 1)
        self.refused(NoSize, sheet, "table", "x", True)
        self.refused(NoSize, sheet, "table", "x", 31)

    def test_sheets_share_nothing(self):
        one, other = Sheet(), Sheet()
        one.table("t", 1)
        self.assertEqual(other.tables(), [])
        other.table("t", 2)
        one.give("t", "a", [1])
        self.assertEqual((other.columns("t"), other.many("t"), one.many("t")), ([], 2, 1))


class Give(SheetTest):
    def test_new_columns_come_last(self):
        sheet = sheet_of({"t": (2, {"b": [1, BAD], "a": [SIXTY, -SIXTY]})})
        self.assertIsNone(sheet.give("t", "abcdefgh", [0, 0]))
        self.assertEqual(sheet.columns("t"), ["b", "a", "abcdefgh"])
        self.assertEqual(self.column(sheet, "t", "b"), [1, BAD])
        self.assertEqual(self.column(sheet, "t", "a"), [SIXTY, -SIXTY])

    def test_in_place_of_a_given_one(self):
        sheet = sheet_of({"t": (1, {"a": [1], "b": [2]})})
        sheet.give("t", "a", [3])
        self.assertEqual((sheet.columns("t"), self.column(sheet, "t", "a")), (["a", "b"], [3]))

    def test_in_place_of_a_ruled_one(self):
        sheet = self.small()
        sheet.rule("t", "d", Cells(["s"], lambda some: -some[0]))
        sheet.give("t", "s", [7, 8])
        self.assertEqual(sheet.columns("t"), ["a", "b", "s", "d"])
        self.assertIs(sheet.is_ruled("t", "s"), False)
        self.assertEqual(self.column(sheet, "t", "s"), [7, 8])
        self.assertEqual(self.column(sheet, "t", "d"), [-7, -8])
        sheet.put("t", "s", 0, 9)
        self.assertEqual(self.column(sheet, "t", "d"), [-9, -8])
        self.assertEqual(self.notes.taken(), [])

    def test_of_tables_without_rows_and_with_thirty(self):
        sheet = sheet_of({"t": (0, {"a": []}), "u": (30, {"a": list(range(30))})})
        self.assertEqual(self.column(sheet, "t", "a"), [])
        self.assertEqual(self.column(sheet, "u", "a"), list(range(30)))
        self.refused(NoValue, sheet, "give", "t", "b", [1])
        self.refused(NoValue, sheet, "give", "u", "b", [1] * 31)

    def test_eight_columns_given_and_ruled_together(self):
        for ruled in range(9):
            sheet = sheet_of({"t": (1, {})})
            for column in EIGHT[ruled:]:
                sheet.give("t", column, [1])
            for column in EIGHT[:ruled]:
                sheet.rule("t", column, Cells([], self.notes.made("f")))
            self.refused(TooMuch, sheet, "give", "t", "i", [1])
            self.refused(TooMuch, sheet, "rule", "t", "i", Cells([], never))
            for column in EIGHT:
                sheet.give("t", column, [2])
                sheet.rule("t", column, Cells([], never))
            self.assertEqual(sheet.columns("t"), EIGHT[ruled:] + EIGHT[:ruled])

    def test_refusals(self):
        sheet = self.small()
        for table in ["u", "tt"] + no_names():
            self.refused(NoTable, sheet, "give", table, "a", [1, 2])
        for column in no_names():
            self.refused(NoName, sheet, "give", "t", column, [1, 2])
        wrong = [[], [1], [1, 2, 3], (1, 2), {0: 1, 1: 2}, "ab", {1, 2}, range(2), None, 2, True, Prickly()]
        for values in wrong + [[1, value] for value in no_values()]:
            for column in ["a", "s", "c"]:
                self.refused(NoValue, sheet, "give", "t", column, values)
        self.assertEqual(self.column(sheet, "t", "s"), [11, 22])
        self.assertEqual(self.notes.taken(), [])

    def test_first_things_first(self):
        sheet = sheet_of({"t": (1, {column: [1] for column in EIGHT})})
        self.refused(NoTable, sheet, "give", "u", "I", [])
        self.refused(NoName, sheet, "give", "t", "I", [])
        self.refused(TooMuch, sheet, "give", "t", "i", [])
        self.refused(NoValue, sheet, "give", "t", "h", [])


class RuleTest(SheetTest):
    def test_new_columns_come_last(self):
        sheet = sheet_of({"t": (1, {"a": [1]})})
        self.assertIsNone(sheet.rule("t", "b", Cells(["a"], sum)))
        sheet.give("t", "c", [3])
        self.assertEqual(sheet.columns("t"), ["a", "b", "c"])
        self.assertEqual([sheet.is_ruled("t", column) for column in "abc"], [False, True, False])

    def test_in_place_of_a_given_one(self):
        sheet = self.small()
        sheet.rule("t", "a", Cells(["b"], lambda some: some[0] + 1))
        self.assertEqual(sheet.columns("t"), ["a", "b", "s"])
        self.assertIs(sheet.is_ruled("t", "a"), True)
        self.assertEqual(self.column(sheet, "t", "a"), [11, 21])
        self.assertEqual(self.column(sheet, "t", "s"), [21, 41])

    def test_in_place_of_a_ruled_one(self):
        sheet = self.small()
        sheet.rule("t", "s", Cells(["b"], lambda some: -some[0]))
        self.assertEqual((sheet.columns("t"), self.column(sheet, "t", "s")), (["a", "b", "s"], [-10, -20]))

    def test_ruling_calls_nothing(self):
        sheet = sheet_of({"t": (2, {"a": [1, 2]})})
        for rule in [Cells(["a"], never), Above(0, ["a"], never), Group("a", "a", never), Mend("a", never)]:
            sheet.rule("t", "b", rule)
        sheet.rule("t", "b", Lookup("a", "t", "a", ["a"], never))
        self.assertEqual((sheet.tables(), sheet.columns("t"), sheet.many("t")), (["t"], ["a", "b"], 2))

    def test_one_rule_in_several_columns(self):
        rule = Cells(["a"], self.notes.made("r"))
        sheet = sheet_of({"t": (1, {"a": [1], "b": rule, "c": rule}), "u": (1, {"a": [2], "b": rule})})
        told = [sheet.cell("t", "b", 0), sheet.cell("t", "c", 0), sheet.cell("u", "b", 0)]
        self.assertEqual(told, [1, 1, 2])
        self.assertEqual(self.notes.taken(), [("r", [1]), ("r", [1]), ("r", [2])])

    def test_refusals(self):
        sheet = self.small()
        for table in ["u", "tt"] + no_names():
            self.refused(NoTable, sheet, "rule", table, "c", Cells(["a"], never))
        for column in no_names():
            self.refused(NoName, sheet, "rule", "t", column, Cells(["a"], never))

    def test_a_rule_that_names_what_is_not_there(self):
        sheet = self.small()
        sheet.table("u", 1)
        sheet.give("u", "x", [1])
        lacking = [
            Cells(["z"], never), Cells(["a", "z"], never), Cells(["x"], never), Above(0, ["z"], never),
            Group("z", "a", never), Group("a", "z", never), Mend("z", never), Lookup("z", "u", "x", [], never),
            Lookup("a", "v", "x", [], never), Lookup("a", "v", "a", ["a"], never), Lookup("a", "u", "a", [], never),
            Lookup("a", "u", "x", ["x", "a"], never), Lookup("x", "u", "x", [], never), Lookup("a", "u", "c", [], never),
        ]
        for rule in lacking:
            for column in ["c", "s", "a"]:
                self.refused(NoColumn, sheet, "rule", "t", column, rule)
        self.assertEqual(self.column(sheet, "t", "s"), [11, 22])
        self.assertEqual(self.notes.taken(), [])

    def test_first_things_first(self):
        sheet = sheet_of({"t": (1, {column: [1] for column in EIGHT})})
        self.refused(NoTable, sheet, "rule", "u", "I", Cells(["i"], never))
        self.refused(NoName, sheet, "rule", "t", "I", Cells(["i"], never))
        self.refused(TooMuch, sheet, "rule", "t", "i", Cells(["i", "j"], never))
        self.refused(NoColumn, sheet, "rule", "t", "a", Cells(["a", "j"], never))
        self.refused(Ring, sheet, "rule", "t", "a", Cells(["a", "b"], never))


class Rings(SheetTest):
    def ringed(self, sheet, table, column, rule, ring):
        found = self.refused(Ring, sheet, "rule", table, column, rule)
        self.assertIsInstance(found.ring, list)
        self.assertEqual(found.ring, ring)
        found.ring.clear()
        self.assertEqual(self.refused(Ring, sheet, "rule", table, column, rule).ring, ring)

    def test_a_rule_that_names_its_own_column(self):
        for many in [0, 1, 3]:
            sheet = sheet_of({"t": (many, {"a": [1] * many}), "u": (many, {"a": [1] * many})})
            for column in ["a", "b"]:
                own = [
                    Cells([column], never), Above(0, [column], never), Group(column, "a", never),
                    Group("a", column, never), Mend(column, never), Lookup(column, "u", "a", [], never),
                    Lookup("a", "t", column, ["a"], never), Lookup("a", "t", "a", [column], never),
                ]
                for rule in own:
                    self.ringed(sheet, "t", column, rule, [("t", column)])

    def test_its_own_column_in_the_row_above_is_no_ring(self):
        sheet = sheet_of({"t": (3, {"a": Above(1, [], lambda some: some[0] * 2)})})
        self.assertEqual(self.column(sheet, "t", "a"), [2, 4, 8])

    def test_a_column_by_its_name_in_another_table_is_no_ring(self):
        sheet = sheet_of({"u": (1, {"a": [5]}), "t": (1, {"k": [5]})})
        sheet.rule("t", "a", Lookup("k", "u", "a", ["a"], sum))
        self.assertEqual(sheet.cell("t", "a", 0), 5)

    def test_rings_of_two_and_three(self):
        sheet = sheet_of({"t": (1, {"a": [1], "b": Cells(["a"], never), "c": Above(0, ["b"], never)})})
        self.ringed(sheet, "t", "a", Cells(["b"], never), [("t", "a"), ("t", "b")])
        self.ringed(sheet, "t", "a", Mend("c", never), [("t", "a"), ("t", "c"), ("t", "b")])
        self.ringed(sheet, "t", "b", Group("a", "c", never), [("t", "b"), ("t", "c")])

    def test_a_shortest_ring(self):
        columns = {"a": [1], "b": Cells(["a"], never), "c": Cells(["b"], never), "d": Cells(["c", "b"], never)}
        sheet = sheet_of({"t": (1, columns)})
        self.ringed(sheet, "t", "a", Cells(["d"], never), [("t", "a"), ("t", "d"), ("t", "b")])
        self.ringed(sheet, "t", "a", Cells(["d", "c", "b"], never), [("t", "a"), ("t", "b")])
        self.ringed(sheet, "t", "a", Cells(["d", "a"], never), [("t", "a")])

    def test_over_two_tables(self):
        sheet = sheet_of({"t": (1, {"a": [1], "b": [1]}), "u": (1, {"a": [1], "k": [1]})})
        sheet.rule("t", "b", Lookup("a", "u", "k", ["a"], never))
        self.ringed(sheet, "u", "a", Lookup("k", "t", "a", ["b"], never), [("u", "a"), ("t", "b")])
        self.ringed(sheet, "u", "k", Lookup("a", "t", "b", [], never), [("u", "k"), ("t", "b")])
        sheet.rule("u", "c", Lookup("k", "t", "b", [], never))
        self.ringed(sheet, "t", "a", Lookup("b", "u", "c", [], never), [("t", "a"), ("t", "b")])
        ring = [("t", "a"), ("u", "c"), ("t", "b")]
        self.ringed(sheet, "t", "a", Lookup("a", "u", "c", [], never), [("t", "a")])
        sheet.give("t", "k", [1])
        self.ringed(sheet, "t", "a", Lookup("k", "u", "c", [], never), ring)

    def test_by_the_rules_as_they_would_stand(self):
        sheet = sheet_of({"t": (1, {"a": [1], "b": Cells(["a"], sum), "c": Cells(["b"], sum)})})
        sheet.rule("t", "b", Cells([], lambda some: 4))
        sheet.rule("t", "a", Cells(["c"], sum))
        self.assertEqual(sheet.cell("t", "a", 0), 4)
        self.ringed(sheet, "t", "b", Cells(["a"], never), [("t", "b"), ("t", "a"), ("t", "c")])
        sheet.give("t", "c", [6])
        sheet.rule("t", "b", Cells(["a"], sum))
        self.assertEqual(sheet.cell("t", "b", 0), 6)

    def test_refused_it_forgets_nothing(self):
        sheet = self.small()
        self.ringed(sheet, "t", "s", Cells(["s"], never), [("t", "s")])
        self.ringed(sheet, "t", "a", Cells(["s"], never), [("t", "a"), ("t", "s")])
        self.assertEqual(self.column(sheet, "t", "s"), [11, 22])
        self.assertEqual(self.notes.taken(), [])


class Put(SheetTest):
    def test_changes_one_cell(self):
        sheet = self.small()
        self.assertIsNone(sheet.put("t", "a", 1, -SIXTY))
        self.assertEqual(self.column(sheet, "t", "a"), [1, -SIXTY])
        self.assertEqual(self.column(sheet, "t", "b"), [10, 20])
        sheet.put("t", "a", 0, BAD)
        self.assertEqual(self.column(sheet, "t", "a"), [BAD, -SIXTY])
        self.assertEqual(self.column(sheet, "t", "s"), [BAD, 20 - SIXTY])

    def test_refusals(self):
        sheet = self.small()
        for table in ["u", "tt"] + no_names():
            self.refused(NoTable, sheet, "put", table, "a", 0, 1)
        for column in ["z", "aa"] + no_names():
            self.refused(NoColumn, sheet, "put", "t", column, 0, 1)
        for place in no_places(2):
            self.refused(NoPlace, sheet, "put", "t", "a", place, 1)
        for value in no_values():
            self.refused(NoValue, sheet, "put", "t", "a", 1, value)
        self.refused(Ruled, sheet, "put", "t", "s", 0, 1)
        self.assertEqual(self.column(sheet, "t", "s"), [11, 22])
        self.assertEqual(self.notes.taken(), [])

    def test_first_things_first(self):
        sheet = self.small()
        self.refused(NoTable, sheet, "put", "u", "z", 2, "x")
        self.refused(NoColumn, sheet, "put", "t", "z", 2, "x")
        self.refused(Ruled, sheet, "put", "t", "s", 2, "x")
        self.refused(NoPlace, sheet, "put", "t", "a", 2, "x")


class Rows(SheetTest):
    def test_put_in_at_each_place(self):
        for place, expected in [(0, [3, 11, 22]), (1, [11, 3, 22]), (2, [11, 22, 3])]:
            sheet = self.small()
            self.assertIsNone(sheet.put_in("t", place, {"b": 1, "a": 2}))
            self.assertEqual((sheet.many("t"), self.column(sheet, "t", "s")), (3, expected))
            self.assertEqual((sheet.cell("t", "a", place), sheet.cell("t", "b", place)), (2, 1))

    def test_put_in_where_no_column_is_given(self):
        sheet = sheet_of({"t": (0, {}), "u": (1, {"a": Above(1, [], sum)})})
        sheet.put_in("t", 0, {})
        sheet.put_in("u", 0, {})
        self.assertEqual((sheet.many("t"), self.column(sheet, "u", "a")), (1, [1, 1]))

    def test_taken_out_at_each_place(self):
        for place in range(3):
            rule = Cells(["a"], lambda some: -some[0])
            sheet = sheet_of({"t": (3, {"a": [1, 2, 3], "b": rule})})
            self.assertIsNone(sheet.take_out("t", place))
            left = [value for value in [1, 2, 3] if value != place + 1]
            self.assertEqual((sheet.many("t"), self.column(sheet, "t", "a")), (2, left))
            self.assertEqual(self.column(sheet, "t", "b"), [-value for value in left])

    def test_to_the_last_row_and_in_again(self):
        sheet = sheet_of({"t": (1, {"a": [1]})})
        sheet.take_out("t", 0)
        self.assertEqual((sheet.many("t"), self.column(sheet, "t", "a")), (0, []))
        self.refused(NoPlace, sheet, "take_out", "t", 0)
        self.refused(NoPlace, sheet, "cell", "t", "a", 0)
        sheet.put_in("t", 0, {"a": 2})
        self.assertEqual(self.column(sheet, "t", "a"), [2])

    def test_thirty_and_no_more(self):
        sheet = sheet_of({"t": (29, {"a": [0] * 29})})
        sheet.put_in("t", 29, {"a": 1})
        for place in [0, 15, 30]:
            self.refused(TooMuch, sheet, "put_in", "t", place, {"a": 1})
        self.refused(NoPlace, sheet, "put_in", "t", 31, {"a": 1})
        sheet.take_out("t", 29)
        sheet.put_in("t", 0, {"a": 2})
        self.assertEqual(sheet.many("t"), 30)

    def test_put_in_refused(self):
        sheet = self.small()
        for table in ["u", "tt"] + no_names():
            self.refused(NoTable, sheet, "put_in", table, 0, {"a": 1, "b": 1})
        for place in no_places(3):
            self.refused(NoPlace, sheet, "put_in", "t", place, {"a": 1, "b": 1})
        wrong = [
            {}, {"a": 1}, {"a": 1, "s": 1}, {"a": 1, "b": 1, "s": 1}, {"a": 1, "b": 1, "z": 1}, {"a": 1, "B": 1},
            {"a": 1, 2: 1}, [], [1, 2], [("a", 1), ("b", 1)], "ab", {"a", "b"}, None, 2, Prickly(),
        ]
        for values in wrong + [{"a": 1, "b": value} for value in no_values()]:
            self.refused(NoValue, sheet, "put_in", "t", 1, values)
        self.assertEqual(self.column(sheet, "t", "s"), [11, 22])
        self.assertEqual(self.notes.taken(), [])

    def test_taken_out_refused(self):
        sheet = self.small()
        for table in ["u", "tt"] + no_names():
            self.refused(NoTable, sheet, "take_out", table, 0)
        for place in no_places(2):
            self.refused(NoPlace, sheet, "take_out", "t", place)
        self.assertEqual(self.column(sheet, "t", "s"), [11, 22])
        self.assertEqual(self.notes.taken(), [])

    def test_first_things_first(self):
        sheet = sheet_of({"t": (30, {"a": [0] * 30})})
        self.refused(NoTable, sheet, "put_in", "u", 31, {})
        self.refused(NoPlace, sheet, "put_in", "t", 31, {})
        self.refused(TooMuch, sheet, "put_in", "t", 30, {})
        self.refused(NoTable, sheet, "take_out", "u", 30)


class Asked(SheetTest):
    def test_refusals(self):
        sheet = self.small()
        for table in ["u", "tt"] + no_names():
            self.refused(NoTable, sheet, "columns", table)
            self.refused(NoTable, sheet, "many", table)
            self.refused(NoTable, sheet, "is_ruled", table, "a")
            self.refused(NoTable, sheet, "cell", table, "a", 0)
            self.refused(NoTable, sheet, "stretch", table, "a", 0, 1)
            self.refused(NoTable, sheet, "total", table, "a")
            self.refused(NoTable, sheet, "came_of", table, "a", 0)
        for column in ["z", "aa"] + no_names():
            self.refused(NoColumn, sheet, "is_ruled", "t", column)
            self.refused(NoColumn, sheet, "cell", "t", column, 0)
            self.refused(NoColumn, sheet, "stretch", "t", column, 0, 1)
            self.refused(NoColumn, sheet, "total", "t", column)
            self.refused(NoColumn, sheet, "came_of", "t", column, 0)
        for place in no_places(2):
            for column in ["a", "s"]:
                self.refused(NoPlace, sheet, "cell", "t", column, place)
                self.refused(NoPlace, sheet, "came_of", "t", column, place)

    def test_first_things_first(self):
        sheet = self.small()
        for method, places in [("cell", (2,)), ("came_of", (2,)), ("stretch", (1, 0))]:
            self.refused(NoTable, sheet, method, "u", "z", *places)
            self.refused(NoColumn, sheet, method, "t", "z", *places)
            self.refused(NoPlace, sheet, method, "t", "a", *places)
        self.refused(NoTable, sheet, "total", "u", "z")
        self.refused(NoTable, sheet, "is_ruled", "u", "z")

    def test_stretches(self):
        sheet = self.small()
        for start, end, expected in [(0, 2, [11, 22]), (0, 1, [11]), (1, 2, [22]), (0, 0, []), (1, 1, []), (2, 2, [])]:
            self.assertEqual(sheet.stretch("t", "s", start, end), expected)

    def test_stretches_refused(self):
        sheet = self.small()
        for start, end in [(1, 0), (2, 1), (-1, 0), (-1, 2), (0, 3), (2, 3), (3, 3), (-2, -1), (0, SIXTY_ONE)]:
            self.refused(NoPlace, sheet, "stretch", "t", "s", start, end)
        for wrong in no_wholes():
            self.refused(NoPlace, sheet, "stretch", "t", "s", wrong, 2)
            self.refused(NoPlace, sheet, "stretch", "t", "s", 0, wrong)

    def test_a_stretch_of_no_rows(self):
        sheet = sheet_of({"t": (0, {"a": [], "b": Cells(["a"], never)})})
        self.assertEqual((sheet.stretch("t", "b", 0, 0), sheet.total("t", "b")), ([], 0))
        self.refused(NoPlace, sheet, "stretch", "t", "b", 0, 1)

    def test_totals(self):
        sheet = self.small()
        self.assertEqual((sheet.total("t", "a"), sheet.total("t", "s")), (3, 33))

    def test_a_total_of_more_than_sixty_figures(self):
        sheet = sheet_of({"t": (30, {"a": [SIXTY] * 30, "b": [-SIXTY] * 30, "c": Cells(["a"], sum)})})
        self.assertEqual(sheet.total("t", "a"), 30 * SIXTY)
        self.assertEqual(sheet.total("t", "b"), -30 * SIXTY)
        self.assertEqual(sheet.total("t", "c"), 30 * SIXTY)

    def test_a_total_is_the_first_fault(self):
        sheet = sheet_of({"t": (4, {"a": [1, ILL, BAD, 2], "b": [BAD, ILL, 1, 2], "c": [1, 2, 3, ILL]})})
        self.assertEqual([sheet.total("t", column) for column in "abc"], [ILL, BAD, ILL])


class Told(SheetTest):
    """What the cells of each kind of rule are (point 13)."""

    def test_cells(self):
        sheet = sheet_of({"t": (4, {"a": [1, BAD, 2, ILL], "b": [10, 20, ILL, BAD]})})
        sheet.rule("t", "c", Cells(["b", "a"], lambda some: some[0] - some[1]))
        self.assertEqual(self.column(sheet, "t", "c"), [9, BAD, ILL, BAD])

    def test_above(self):
        sheet = sheet_of({"t": (4, {"a": [1, 2, 3, 4], "s": Above(100, ["a"], sum)})})
        self.assertEqual(self.column(sheet, "t", "s"), [101, 103, 106, 110])
        sheet.put("t", "a", 1, BAD)
        self.assertEqual(self.column(sheet, "t", "s"), [101, BAD, BAD, BAD])
        sheet.take_out("t", 0)
        self.assertEqual(self.column(sheet, "t", "s"), [BAD, BAD, BAD])
        sheet.take_out("t", 0)
        self.assertEqual(self.column(sheet, "t", "s"), [103, 107])

    def test_group(self):
        sheet = sheet_of({"t": (5, {"k": [1, 2, 1, BAD, 2], "v": [1, 10, 2, ILL, 20], "g": Group("k", "v", sum)})})
        self.assertEqual(self.column(sheet, "t", "g"), [3, 30, 3, BAD, 30])
        sheet.put("t", "v", 2, ILL)
        self.assertEqual(self.column(sheet, "t", "g"), [ILL, 30, ILL, BAD, 30])

    def test_lookup(self):
        there = {"n": [BAD, 5, 6, 5], "v": [1, 50, ILL, 2], "w": [1, 3, 4, 2]}
        sheet = sheet_of({"u": (4, there), "t": (4, {"k": [5, 6, 7, BAD]})})
        sheet.rule("t", "l", Lookup("k", "u", "n", ["v", "w"], sum))
        self.assertEqual(self.column(sheet, "t", "l"), [53, ILL, LACKS, BAD])

    def test_lookup_within_one_table(self):
        sheet = sheet_of({"t": (3, {"k": [2, 3, 1], "n": [1, 2, 3], "v": [10, 20, 30]})})
        sheet.rule("t", "l", Lookup("k", "t", "n", ["v"], sum))
        self.assertEqual(self.column(sheet, "t", "l"), [20, 30, 10])

    def test_mend(self):
        sheet = sheet_of({"t": (3, {"a": [4, BAD, 0], "m": Mend("a", lambda some: len(some) - 1)})})
        self.assertEqual(self.column(sheet, "t", "m"), [4, -1, 0])

    def test_what_functions_tell_is_settled(self):
        for told in no_values():
            sheet = sheet_of({"t": (1, {"a": Cells([], lambda some: told), "b": Cells(["a"], never)})})
            self.assertEqual((sheet.cell("t", "a", 0), sheet.cell("t", "b", 0)), (ODD, ODD))
        for told in [SIXTY, -SIXTY, 0, BAD]:
            sheet = sheet_of({"t": (1, {"a": Cells([], lambda some: told), "b": Mend("a", lambda some: 7)})})
            self.assertEqual(sheet.cell("t", "a", 0), told)
            self.assertEqual(sheet.cell("t", "b", 0), 7 if told == BAD else told)

    def test_a_column_named_twice(self):
        sheet = sheet_of({"t": (1, {"a": [3], "b": Cells(["a", "a"], sum), "c": Above(1, ["a", "a"], sum)})})
        self.assertEqual((sheet.cell("t", "b", 0), sheet.cell("t", "c", 0)), (6, 7))

    def test_forty_cells_that_lean_each_on_the_next_one(self):
        columns = {"a": [1] * 30, "b": Above(0, ["a"], sum), "c": Cells(["b"], sum)}
        for earlier, later in zip("cdefg", "defgh"):
            columns[later] = Cells([earlier], lambda some: some[0] + 1)
        sheet = sheet_of({"t": (30, columns), "u": (1, {"k": [1]})})
        sheet.rule("u", "a", Lookup("k", "t", "a", ["h"], sum))
        self.assertEqual(sheet.cell("t", "h", 29), 35)
        self.assertEqual(sheet.cell("u", "a", 0), 6)
        self.assertEqual(sheet.total("t", "h"), sum(range(6, 36)))
        self.assertEqual(sheet.came_of("t", "h", 29), [("t", "a", place) for place in range(30)])

    def test_a_zigzag_of_forty_cells(self):
        columns = {"a": [1] * 20, "b": Above(0, ["a"], sum), "c": Above(0, ["b"], sum)}
        sheet = sheet_of({"t": (20, columns)})
        self.assertEqual(sheet.cell("t", "c", 19), 210)


class CameOf(SheetTest):
    def came(self, sheet, table, column, place, *cells):
        found = sheet.came_of(table, column, place)
        self.assertIsInstance(found, list)
        self.assertEqual(found, list(cells))
        self.assertTrue(all(type(cell) is tuple for cell in found))

    def test_a_given_cell_of_itself(self):
        sheet = sheet_of({"t": (2, {"a": [1, BAD]})})
        self.came(sheet, "t", "a", 0, ("t", "a", 0))
        self.came(sheet, "t", "a", 1, ("t", "a", 1))

    def test_cells_rising_and_each_once(self):
        sheet = sheet_of({"t": (2, {"b": [1, 2], "a": [3, BAD], "c": Cells(["b", "a", "b"], sum)})})
        self.came(sheet, "t", "c", 0, ("t", "a", 0), ("t", "b", 0))
        sheet.rule("t", "d", Cells(["c", "b", "a"], sum))
        self.came(sheet, "t", "d", 0, ("t", "a", 0), ("t", "b", 0))

    def test_nothing_behind_the_first_fault(self):
        sheet = sheet_of({"t": (2, {"a": [3, BAD], "b": [1, 2], "c": Cells(["a", "b"], sum)})})
        self.came(sheet, "t", "c", 1, ("t", "a", 1))
        sheet.rule("t", "d", Cells(["c", "b"], sum))
        self.came(sheet, "t", "d", 1, ("t", "a", 1))
        self.came(sheet, "t", "d", 0, ("t", "a", 0), ("t", "b", 0))

    def test_none(self):
        sheet = sheet_of({"t": (2, {"a": Cells([], len), "b": Above(1, [], sum), "c": Cells(["a", "b"], sum)})})
        for column in "abc":
            self.came(sheet, "t", column, 1)

    def test_above(self):
        sheet = sheet_of({"t": (12, {"a": [1] * 12, "b": [2] * 12, "s": Above(0, ["b"], sum)})})
        self.came(sheet, "t", "s", 0, ("t", "b", 0))
        self.came(sheet, "t", "s", 11, *[("t", "b", place) for place in range(12)])
        sheet.put("t", "b", 1, BAD)
        self.came(sheet, "t", "s", 11, ("t", "b", 0), ("t", "b", 1))

    def test_group(self):
        sheet = sheet_of({"t": (3, {"k": [1, 2, 1], "v": [5, 6, 7], "g": Group("k", "v", sum)})})
        keys = [("t", "k", place) for place in range(3)]
        self.came(sheet, "t", "g", 0, *keys, ("t", "v", 0), ("t", "v", 2))
        self.came(sheet, "t", "g", 1, *keys, ("t", "v", 1))
        sheet.put("t", "v", 0, BAD)
        self.came(sheet, "t", "g", 2, ("t", "k", 0), ("t", "k", 2), ("t", "v", 0))
        sheet.put("t", "k", 1, BAD)
        self.came(sheet, "t", "g", 1, ("t", "k", 1))

    def test_lookup(self):
        sheet = sheet_of({"u": (3, {"n": [4, 5, 5], "v": [1, 2, 3]}), "t": (3, {"k": [5, 6, BAD]})})
        sheet.rule("t", "l", Lookup("k", "u", "n", ["v"], sum))
        self.came(sheet, "t", "l", 0, ("t", "k", 0), ("u", "n", 0), ("u", "n", 1), ("u", "v", 1))
        self.came(sheet, "t", "l", 1, ("t", "k", 1), ("u", "n", 0), ("u", "n", 1), ("u", "n", 2))
        self.came(sheet, "t", "l", 2, ("t", "k", 2))

    def test_mend(self):
        sheet = sheet_of({"t": (2, {"a": [1, BAD], "m": Mend("a", len)})})
        self.came(sheet, "t", "m", 0, ("t", "a", 0))
        self.came(sheet, "t", "m", 1, ("t", "a", 1))

    def test_through_ruled_keys(self):
        sheet = sheet_of({"t": (2, {"a": [1, 1], "v": [5, 6], "k": Cells(["a"], sum), "g": Group("k", "v", sum)})})
        self.came(sheet, "t", "g", 1, ("t", "a", 0), ("t", "a", 1), ("t", "v", 0), ("t", "v", 1))

    def test_the_cell_is_wanted(self):
        sheet = sheet_of({"t": (2, {"a": [1, 2], "b": Cells(["a"], self.notes.made("b"))})})
        self.came(sheet, "t", "b", 1, ("t", "a", 1))
        self.assertEqual(self.notes.taken(), [("b", [2])])
        self.came(sheet, "t", "b", 1, ("t", "a", 1))
        self.assertEqual(self.notes.taken(), [])

    def test_as_the_sheet_stands(self):
        sheet = sheet_of({"t": (2, {"a": [1, 2], "b": Cells(["a"], sum)})})
        self.came(sheet, "t", "b", 1, ("t", "a", 1))
        sheet.take_out("t", 0)
        self.came(sheet, "t", "b", 0, ("t", "a", 0))
        sheet.give("t", "b", [4])
        self.came(sheet, "t", "b", 0, ("t", "b", 0))


class Copies(SheetTest):
    def test_lists_and_dicts_handed_in(self):
        values, row, names = [1, 2], {"a": 7}, ["a"]
        sheet = sheet_of({"t": (2, {"a": values})})
        sheet.rule("t", "b", Cells(names, sum))
        sheet.put_in("t", 0, row)
        values[0] = 99
        values.append(3)
        row["a"] = 98
        names.append("z")
        self.assertEqual((self.column(sheet, "t", "a"), self.column(sheet, "t", "b")), ([7, 1, 2], [7, 1, 2]))
        sheet.put("t", "a", 1, 50)
        self.assertEqual((values, row, names), ([99, 2, 3], {"a": 98}, ["a", "z"]))
        sheet.back()
        sheet.back()
        self.assertEqual(self.column(sheet, "t", "a"), [1, 2])

    def test_a_list_handed_in_for_a_column_taken_back(self):
        values = [1, 2]
        sheet = sheet_of({"t": (2, {"a": values})})
        sheet.give("t", "a", [3, 4])
        values.clear()
        sheet.back()
        self.assertEqual(self.column(sheet, "t", "a"), [1, 2])

    def test_lists_told(self):
        sheet = self.small()
        for ask in [
            sheet.tables, lambda: sheet.columns("t"), lambda: sheet.stretch("t", "a", 0, 2),
            lambda: sheet.stretch("t", "s", 0, 2), lambda: sheet.came_of("t", "s", 0), lambda: sheet.came_of("t", "a", 0),
        ]:
            told, again = ask(), ask()
            self.assertIsNot(told, again)
            told.append("z")
            told.pop(0)
            self.assertEqual(ask(), again)

    def test_lists_told_stay_as_they_were(self):
        sheet = self.small()
        told = [sheet.tables(), sheet.columns("t"), sheet.stretch("t", "a", 0, 2), sheet.came_of("t", "s", 0)]
        sheet.table("u", 1)
        sheet.give("t", "c", [1, 2])
        sheet.put("t", "a", 0, 5)
        sheet.take_out("t", 0)
        sheet.cell("t", "s", 0)
        self.assertEqual(told, [["t"], ["a", "b", "s"], [1, 2], [("t", "a", 0), ("t", "b", 0)]])

    def test_the_list_of_a_function_is_its_own(self):
        def spoil(some):
            some.append(99)
            return self.notes.made("s")(some)

        sheet = sheet_of({"t": (1, {"a": [1], "b": Cells(["a"], spoil)})})
        self.assertEqual((sheet.cell("t", "b", 0), sheet.cell("t", "b", 0)), (100, 100))
        self.assertEqual(self.notes.taken(), [("s", [1, 99])])


class NothingToTakeBack(SheetTest):
    def test_what_is_refused_is_no_change(self):
        sheet = Sheet()
        self.refused(NoName, sheet, "table", "T", 1)
        self.refused(NoBack, sheet, "back")
        sheet.table("t", 1)
        for error, method, handed in [
            (NoSize, "table", ("u", 31)), (NoValue, "give", ("t", "a", [])), (NoPlace, "put_in", ("t", 2, {})),
            (NoPlace, "take_out", ("t", 1)), (NoColumn, "put", ("t", "a", 0, 1)), (NoValue, "put_in", ("t", 0, [])),
            (NoColumn, "rule", ("t", "a", Cells(["b"], never))), (Ring, "rule", ("t", "a", Cells(["a"], never))),
        ]:
            self.refused(error, sheet, method, *handed)
        sheet.back()
        self.assertEqual(sheet.tables(), [])
        self.refused(NoBack, sheet, "back")


if __name__ == "__main__":
    unittest.main()
