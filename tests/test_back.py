"""Changes taken back, and what is remembered behind that (points 16 and 20)."""

import unittest

from lazycols.errors import NoBack, NoPlace, NoValue, Ring
from lazycols.rules import Above, Cells, Group
from lazycols.sheets import Sheet
from things import Notes, sheet_of, stands

BAD = ("fault", "bad")


class BackTest(unittest.TestCase):
    def setUp(self):
        self.notes = Notes()
        self.double = Cells(["a"], self.notes.made("c", lambda some: some[0] * 2))

    def small(self):
        """Two rows of a given column a and a ruled one c, whose cells remember."""
        sheet = sheet_of({"t": (2, {"a": [1, 2], "c": self.double})})
        self.column(sheet, [2, 4], ("c", [1]), ("c", [2]))
        return sheet

    def column(self, sheet, expected, *calls):
        """A look at the column c of t, and just the calls that it makes."""
        self.assertEqual(sheet.stretch("t", "c", 0, sheet.many("t")), expected)
        self.assertEqual(self.notes.taken(), sorted(calls))

    def there_and_back(self, sheet, method, *handed):
        """The change shows, and taken back it is as if it hadn't been, but for what cells remember."""
        before = stands(sheet)
        self.assertIsNone(getattr(sheet, method)(*handed))
        self.assertNotEqual(stands(sheet), before)
        self.assertIsNone(sheet.back())
        self.assertEqual(stands(sheet), before)
        self.assertEqual(self.notes.taken(), [])


class EachKind(BackTest):
    def test_a_table(self):
        sheet = self.small()
        self.there_and_back(sheet, "table", "u", 3)
        self.column(sheet, [2, 4])

    def test_a_new_column(self):
        sheet = self.small()
        self.there_and_back(sheet, "give", "t", "d", [1, 2])
        self.there_and_back(sheet, "rule", "t", "d", Cells(["c"], self.notes.made("d")))
        self.column(sheet, [2, 4])

    def test_a_column_given_in_place_of_a_given_one(self):
        sheet = self.small()
        self.there_and_back(sheet, "give", "t", "a", [5, BAD])
        self.column(sheet, [2, 4])

    def test_a_column_ruled_in_place_of_a_given_one(self):
        sheet = self.small()
        self.there_and_back(sheet, "rule", "t", "a", Cells([], self.notes.made("a")))
        self.column(sheet, [2, 4])

    def test_a_column_given_in_place_of_a_ruled_one(self):
        sheet = self.small()
        sheet.give("t", "z", [1, 2])
        self.there_and_back(sheet, "give", "t", "c", [5, 6])
        self.assertEqual(sheet.columns("t"), ["a", "c", "z"])
        self.column(sheet, [2, 4], ("c", [1]), ("c", [2]))

    def test_a_column_ruled_in_place_of_a_ruled_one(self):
        sheet = self.small()
        sheet.rule("t", "c", Cells(["a"], self.notes.made("n", lambda some: -some[0])))
        self.column(sheet, [-1, -2], ("n", [1]), ("n", [2]))
        sheet.back()
        self.column(sheet, [2, 4], ("c", [1]), ("c", [2]))

    def test_a_put(self):
        sheet = self.small()
        self.there_and_back(sheet, "put", "t", "a", 1, 9)
        self.there_and_back(sheet, "put", "t", "a", 0, BAD)
        self.column(sheet, [2, 4])

    def test_a_put_of_the_value_that_stands_there_is_a_change(self):
        sheet = self.small()
        sheet.put("t", "a", 0, 7)
        sheet.put("t", "a", 0, 7)
        sheet.back()
        self.assertEqual(sheet.cell("t", "a", 0), 7)
        sheet.back()
        self.assertEqual(sheet.cell("t", "a", 0), 1)

    def test_a_column_given_as_it_stands_is_a_change(self):
        sheet = self.small()
        sheet.put("t", "a", 0, 7)
        sheet.give("t", "a", [7, 2])
        sheet.back()
        sheet.back()
        self.assertEqual(sheet.cell("t", "a", 0), 1)

    def test_a_row_put_in(self):
        for place in [0, 1, 2]:
            sheet = self.small()
            self.there_and_back(sheet, "put_in", "t", place, {"a": 9})
            self.column(sheet, [2, 4])

    def test_a_row_taken_out(self):
        for place in [0, 1]:
            sheet = self.small()
            self.there_and_back(sheet, "take_out", "t", place)
            self.column(sheet, [2, 4])

    def test_thirty_rows_again(self):
        sheet = sheet_of({"t": (30, {"a": list(range(30)), "b": [0] * 30})})
        for place in [0, 15, 29]:
            self.there_and_back(sheet, "take_out", "t", place)

    def test_eight_columns_again(self):
        columns = {column: [1, 2] for column in "abcdefg"}
        sheet = sheet_of({"t": (2, {**columns, "h": Cells(["a"], self.notes.made("h"))})})
        self.there_and_back(sheet, "give", "t", "h", [1, 2])
        for column in "abcdefg":
            self.there_and_back(sheet, "rule", "t", column, Cells([], self.notes.made("f")))

    def test_rules_of_the_row_above(self):
        sheet = sheet_of({"t": (2, {"a": [1, 2], "c": Above(0, ["a"], self.notes.made("c"))})})
        self.column(sheet, [1, 3], ("c", [0, 1]), ("c", [1, 2]))
        sheet.take_out("t", 0)
        self.column(sheet, [2], ("c", [0, 2]))
        sheet.back()
        self.column(sheet, [1, 3], ("c", [1, 2]))


class InARow(BackTest):
    def test_nothing_to_take_back(self):
        sheet = Sheet()
        for turn in range(2):
            with self.assertRaises(NoBack):
                sheet.back()
        self.assertEqual(sheet.tables(), [])
        sheet.table("t", 1)
        sheet.back()
        with self.assertRaises(NoBack):
            sheet.back()

    def test_down_to_the_first_one(self):
        sheet, before = Sheet(), []
        changes = [
            ("table", "t", 2), ("give", "t", "a", [1, 2]), ("rule", "t", "c", self.double), ("put", "t", "a", 0, 5),
            ("table", "u", 0), ("put_in", "t", 1, {"a": 8}), ("give", "t", "b", [1, 2, 3]), ("take_out", "t", 0),
            ("put_in", "u", 0, {}), ("rule", "t", "b", Group("a", "c", self.notes.made("b"))),
            ("give", "t", "c", [4, 4]), ("put", "t", "c", 1, BAD), ("give", "t", "a", [0, 0]), ("take_out", "t", 1),
            ("take_out", "t", 0), ("put_in", "t", 0, {"a": 1, "c": 2}), ("table", "v", 30), ("put", "t", "a", 0, 1),
            ("rule", "t", "a", Cells([], self.notes.made("a"))), ("put_in", "t", 1, {"c": 3}), ("take_out", "u", 0),
        ]
        for method, *handed in changes:
            before.append(stands(sheet))
            getattr(sheet, method)(*handed)
        while before:
            sheet.back()
            self.assertEqual(stands(sheet), before.pop())
        with self.assertRaises(NoBack):
            sheet.back()
        self.assertEqual(self.notes.taken(), [])

    def test_three_hundred_changes(self):
        sheet = self.small()
        for value in range(297):
            sheet.put("t", "a", 0, value)
        for value in reversed(range(296)):
            sheet.back()
            self.assertEqual(sheet.cell("t", "a", 0), value)
        sheet.back()
        self.assertEqual(sheet.cell("t", "a", 0), 1)

    def test_taking_back_is_no_change(self):
        sheet = self.small()
        sheet.put("t", "a", 0, 5)
        sheet.put("t", "a", 0, 6)
        sheet.back()
        sheet.back()
        self.assertEqual(sheet.cell("t", "a", 0), 1)

    def test_another_change_behind_one_taken_back(self):
        sheet = self.small()
        sheet.put("t", "a", 0, 5)
        sheet.back()
        sheet.put("t", "a", 1, 6)
        sheet.back()
        sheet.back()
        self.assertEqual(sheet.columns("t"), ["a"])

    def test_what_is_refused_is_no_change(self):
        sheet = self.small()
        sheet.put("t", "a", 0, 5)
        for error, method, handed in [
            (NoValue, "put", ("t", "a", 0, "x")), (NoPlace, "take_out", ("t", 2)), (NoValue, "give", ("t", "a", [1])),
            (Ring, "rule", ("t", "a", Cells(["c"], sum))), (NoValue, "put_in", ("t", 0, {})),
        ]:
            with self.assertRaises(error):
                getattr(sheet, method)(*handed)
        sheet.back()
        self.assertEqual(sheet.stretch("t", "a", 0, 2), [1, 2])

    def test_looks_between_are_no_changes(self):
        sheet = self.small()
        sheet.put("t", "a", 0, 5)
        sheet.total("t", "c"), sheet.came_of("t", "c", 0), sheet.cell("t", "a", 0)
        sheet.back()
        self.assertEqual(sheet.cell("t", "a", 0), 1)

    def test_rings_are_as_the_rules_stand(self):
        sheet = sheet_of({"t": (1, {"a": [1], "b": Cells(["a"], sum)})})
        sheet.give("t", "b", [1])
        sheet.rule("t", "a", Cells(["b"], sum))
        sheet.back()
        sheet.back()
        with self.assertRaises(Ring) as caught:
            sheet.rule("t", "a", Cells(["b"], sum))
        self.assertEqual(caught.exception.ring, [("t", "a"), ("t", "b")])


class RememberedBehind(BackTest):
    def test_what_cells_remember_is_not_taken_back(self):
        sheet = self.small()
        sheet.put("t", "a", 0, 5)
        self.column(sheet, [10, 4], ("c", [5]))
        sheet.back()
        self.column(sheet, [2, 4], ("c", [1]))
        sheet.put("t", "a", 0, 5)
        sheet.back()
        self.column(sheet, [2, 4])

    def test_a_row_taken_out_and_standing_again(self):
        sheet = self.small()
        sheet.take_out("t", 0)
        self.column(sheet, [4])
        sheet.back()
        self.column(sheet, [2, 4])

    def test_a_row_taken_out_among_other_changes(self):
        sheet = self.small()
        sheet.take_out("t", 0)
        sheet.put_in("t", 0, {"a": 1})
        self.column(sheet, [2, 4], ("c", [1]))
        sheet.put("t", "a", 0, 3)
        sheet.put("t", "a", 1, 6)
        self.column(sheet, [6, 12], ("c", [3]), ("c", [6]))
        for turn in range(4):
            sheet.back()
        self.column(sheet, [2, 4], ("c", [2]))

    def test_a_row_put_in_and_taken_back(self):
        sheet = self.small()
        sheet.put_in("t", 1, {"a": 9})
        self.column(sheet, [2, 18, 4], ("c", [9]))
        sheet.back()
        self.column(sheet, [2, 4])
        sheet.put_in("t", 1, {"a": 9})
        self.column(sheet, [2, 18, 4], ("c", [9]))

    def test_a_row_put_in_and_out_and_both_taken_back(self):
        sheet = self.small()
        sheet.put_in("t", 2, {"a": 9})
        self.column(sheet, [2, 4, 18], ("c", [9]))
        sheet.take_out("t", 2)
        sheet.back()
        self.column(sheet, [2, 4, 18])
        sheet.back()
        sheet.put_in("t", 2, {"a": 9})
        self.column(sheet, [2, 4, 18], ("c", [9]))

    def test_numbers_never_come_again(self):
        sheet = sheet_of({"t": (0, {"a": [], "c": self.double})})
        for turn in range(4):
            sheet.put_in("t", 0, {"a": 1})
            self.column(sheet, [2], ("c", [1]))
            sheet.back()
        for turn in range(4):
            sheet.put_in("t", 0, {"a": 1})
            self.column(sheet, [2], ("c", [1]))
            sheet.take_out("t", 0)

    def test_a_column_ruled_anew_and_taken_back(self):
        sheet = self.small()
        sheet.rule("t", "c", self.double)
        sheet.back()
        self.column(sheet, [2, 4], ("c", [1]), ("c", [2]))
        sheet.rule("t", "c", self.double)
        self.column(sheet, [2, 4], ("c", [1]), ("c", [2]))
        sheet.back()
        self.column(sheet, [2, 4], ("c", [1]), ("c", [2]))

    def test_a_new_column_taken_back_and_ruled_again(self):
        sheet = self.small()
        sheet.back()
        sheet.rule("t", "c", self.double)
        self.column(sheet, [2, 4], ("c", [1]), ("c", [2]))

    def test_rows_taken_out_forget_too(self):
        sheet = self.small()
        sheet.take_out("t", 0)
        sheet.rule("t", "c", self.double)
        sheet.back()
        sheet.back()
        self.column(sheet, [2, 4], ("c", [1]), ("c", [2]))

    def test_rows_taken_out_forget_where_a_column_is_given_and_taken_back(self):
        sheet = self.small()
        sheet.take_out("t", 1)
        sheet.give("t", "c", [1])
        sheet.back()
        self.column(sheet, [2], ("c", [1]))
        sheet.back()
        self.column(sheet, [2, 4], ("c", [2]))

    def test_other_columns_do_not_forget(self):
        sheet = self.small()
        sheet.rule("t", "d", Cells(["c"], self.notes.made("d")))
        self.assertEqual(sheet.total("t", "d"), 6)
        self.notes.taken()
        sheet.give("t", "a", [1, 2])
        sheet.back()
        self.assertEqual(sheet.total("t", "d"), 6)
        self.column(sheet, [2, 4])

    def test_a_table_taken_back_and_told_anew(self):
        sheet = Sheet()
        for turn in range(3):
            sheet.table("t", 2)
            sheet.give("t", "a", [1, 2])
            sheet.rule("t", "c", self.double)
            sheet.put_in("t", 0, {"a": 3})
            self.column(sheet, [6, 2, 4], ("c", [1]), ("c", [2]), ("c", [3]))
            for back in range(4):
                sheet.back()
            self.assertEqual(sheet.tables(), [])

    def test_tables_keep_apart(self):
        sheet = sheet_of({"u": (2, {"a": [1, 2], "c": self.double}), "t": (2, {"a": [1, 2], "c": self.double})})
        self.assertEqual(sheet.total("u", "c"), 6)
        self.notes.taken()
        for turn in range(3):
            sheet.back()
        self.assertEqual((sheet.tables(), sheet.total("u", "c")), (["u"], 6))
        self.assertEqual(self.notes.taken(), [])


if __name__ == "__main__":
    unittest.main()
