"""Views: what they show, refuse, want, and where puts through them go (points 21 to 25)."""

import unittest

from lazycols.errors import (
    ColsError, NoColumn, NoName, NoPlace, NoTable, NoValue, Nobody, Ruled, Several,
)
from lazycols.rules import Cells, Group
from lazycols.sheets import Sheet
from lazycols.views import Beside, Cut, Ordered, Some, Together, View, Whole
from things import SIXTY, SIXTY_ONE, Notes, no_names, no_places, no_values, no_wholes, sheet_of, stands

BAD = ("fault", "bad")
ILL = ("fault", "ill")
LACKS = ("fault", "lacks")


class ViewTest(unittest.TestCase):
    def setUp(self):
        self.notes = Notes()

    def sheet(self):
        here = {"a": [3, 0, BAD, 3, -1], "b": [10, 20, 30, 40, 50], "k": [7, 8, 9, ILL, 7]}
        there = {"n": [7, BAD, 8, 7], "v": [1, 2, 3, 4]}
        return sheet_of({"t": (5, here), "u": (4, there)})

    def shows(self, view, column, expected):
        """What is shown of a column, and that looks, the number of rows and the places agree with it."""
        told = view.shown(column)
        self.assertIsInstance(told, list)
        self.assertEqual(told, expected)
        self.assertEqual(view.many(), len(expected))
        self.assertEqual([view.look(column, place) for place in range(len(expected))], expected)
        self.refused(NoPlace, view, "look", column, len(expected))

    def refused(self, error, view, method, *handed):
        with self.assertRaises(ColsError) as caught:
            getattr(view, method)(*handed)
        self.assertIs(type(caught.exception), error)

    def not_made(self, error, kind, *handed):
        with self.assertRaises(ColsError) as caught:
            kind(*handed)
        self.assertIs(type(caught.exception), error)
        self.assertEqual(self.notes.taken(), [])

    def spots(self, view, column, expected):
        """The spots at all places, in their order."""
        told = [view.spots(column, place) for place in range(len(expected))]
        self.assertEqual(told, expected)
        self.assertTrue(all(type(spot) is tuple for spots in told for spot in spots))

    def puts(self, sheet, view, column, place, spot):
        """A put goes to just this cell of the sheet, and is one change."""
        before = stands(sheet)
        self.assertIsNone(view.put(column, place, 77))
        after = stands(sheet)
        sheet.back()
        self.assertEqual(stands(sheet), before)
        sheet.put(*spot, 77)
        self.assertEqual(stands(sheet), after)
        sheet.back()


class WholeTest(ViewTest):
    def test_the_rows_and_columns_of_the_table(self):
        view = Whole(self.sheet(), "t")
        self.assertEqual(view.columns(), ["a", "b", "k"])
        self.shows(view, "a", [3, 0, BAD, 3, -1])
        self.shows(view, "b", [10, 20, 30, 40, 50])

    def test_no_rows_and_no_columns(self):
        view = Whole(sheet_of({"t": (0, {"a": []}), "u": (3, {})}), "t")
        self.shows(view, "a", [])
        view = Whole(sheet_of({"t": (3, {})}), "t")
        self.assertEqual((view.columns(), view.many()), ([], 3))

    def test_no_table(self):
        for table in ["v", "tt"] + no_names():
            self.not_made(NoTable, Whole, self.sheet(), table)

    def test_it_keeps_nothing(self):
        sheet = self.sheet()
        view = Whole(sheet, "t")
        sheet.put("t", "a", 0, 9)
        sheet.take_out("t", 1)
        sheet.rule("t", "c", Cells(["b"], lambda some: some[0] // 10))
        self.assertEqual(view.columns(), ["a", "b", "k", "c"])
        self.shows(view, "a", [9, BAD, 3, -1])
        self.shows(view, "c", [1, 3, 4, 5])
        sheet.back()
        sheet.back()
        self.assertEqual(view.columns(), ["a", "b", "k"])
        self.shows(view, "a", [9, 0, BAD, 3, -1])

    def test_spots_and_puts(self):
        sheet = self.sheet()
        view = Whole(sheet, "t")
        self.spots(view, "b", [[("t", "b", place)] for place in range(5)])
        for place in range(5):
            self.puts(sheet, view, "b", place, ("t", "b", place))

    def test_kinds(self):
        for kind in [Whole, Some, Ordered, Cut, Together, Beside]:
            self.assertTrue(issubclass(kind, View))


class SomeTest(ViewTest):
    def test_numbers_other_than_0(self):
        view = Some(Whole(self.sheet(), "t"), "a")
        self.assertEqual(view.columns(), ["a", "b", "k"])
        self.shows(view, "a", [3, 3, -1])
        self.shows(view, "b", [10, 40, 50])
        self.shows(view, "k", [7, ILL, 7])

    def test_no_rows_are_left(self):
        sheet = sheet_of({"t": (3, {"a": [0, BAD, 0], "b": [1, 2, 3]})})
        self.shows(Some(Whole(sheet, "t"), "a"), "b", [])

    def test_spots_and_puts(self):
        sheet = self.sheet()
        view = Some(Whole(sheet, "t"), "a")
        self.spots(view, "b", [[("t", "b", 0)], [("t", "b", 3)], [("t", "b", 4)]])
        self.puts(sheet, view, "b", 1, ("t", "b", 3))
        view.put("a", 1, 0)
        self.shows(view, "b", [10, 50])
        self.assertEqual(sheet.cell("t", "a", 3), 0)

    def test_no_column(self):
        for column in ["z", "t.a"] + no_names():
            self.not_made(NoColumn, Some, Whole(self.sheet(), "t"), column)


class OrderedTest(ViewTest):
    def test_rising_with_faults_behind(self):
        view = Ordered(Whole(self.sheet(), "t"), "a")
        self.assertEqual(view.columns(), ["a", "b", "k"])
        self.shows(view, "a", [-1, 0, 3, 3, BAD])
        self.shows(view, "b", [50, 20, 10, 40, 30])

    def test_rows_of_one_number_and_of_faults_stand_as_in_the_view(self):
        values = [2, ILL, 1, BAD, 2, 1, ILL, 2, -SIXTY, SIXTY]
        sheet = sheet_of({"t": (10, {"a": values, "b": list(range(10))})})
        self.shows(Ordered(Whole(sheet, "t"), "a"), "b", [8, 2, 5, 0, 4, 7, 9, 1, 3, 6])

    def test_by_one_column_and_then_by_another(self):
        sheet = sheet_of({"t": (4, {"a": [1, 0, 1, 0], "b": [5, 6, 4, 3], "c": [0, 1, 2, 3]})})
        self.shows(Ordered(Ordered(Whole(sheet, "t"), "b"), "a"), "c", [3, 1, 2, 0])

    def test_no_rows(self):
        self.shows(Ordered(Whole(sheet_of({"t": (0, {"a": []})}), "t"), "a"), "a", [])

    def test_spots_and_puts(self):
        sheet = self.sheet()
        view = Ordered(Whole(sheet, "t"), "a")
        self.spots(view, "a", [[("t", "a", place)] for place in [4, 1, 0, 3, 2]])
        for place, spot in enumerate([4, 1, 0, 3, 2]):
            self.puts(sheet, view, "b", place, ("t", "b", spot))
        view.put("a", 0, 9)
        self.shows(view, "a", [0, 3, 3, 9, BAD])

    def test_no_column(self):
        for column in ["z", "t.a"] + no_names():
            self.not_made(NoColumn, Ordered, Whole(self.sheet(), "t"), column)


class CutTest(ViewTest):
    def test_from_a_place_on(self):
        whole = Whole(self.sheet(), "t")
        values = [10, 20, 30, 40, 50]
        for start in range(8):
            for count in range(8):
                view = Cut(whole, start, count)
                self.shows(view, "b", values[start:start + count])
        self.assertEqual(Cut(whole, 1, 2).columns(), ["a", "b", "k"])

    def test_far_beyond_the_end(self):
        whole = Whole(self.sheet(), "t")
        self.shows(Cut(whole, 3, SIXTY_ONE), "b", [40, 50])
        self.shows(Cut(whole, SIXTY_ONE, SIXTY_ONE), "b", [])
        self.shows(Cut(whole, SIXTY_ONE, 0), "b", [])

    def test_no_place(self):
        whole = Whole(self.sheet(), "t")
        for wrong in no_wholes() + [-1, -5, -SIXTY_ONE]:
            self.not_made(NoPlace, Cut, whole, wrong, 1)
            self.not_made(NoPlace, Cut, whole, 0, wrong)

    def test_spots_and_puts(self):
        sheet = self.sheet()
        view = Cut(Whole(sheet, "t"), 3, 9)
        self.spots(view, "b", [[("t", "b", 3)], [("t", "b", 4)]])
        self.puts(sheet, view, "b", 1, ("t", "b", 4))

    def test_of_an_order(self):
        sheet = self.sheet()
        view = Cut(Ordered(Whole(sheet, "t"), "a"), 1, 3)
        self.shows(view, "b", [20, 10, 40])
        sheet.put("t", "a", 1, 5)
        self.shows(view, "b", [10, 40, 20])


class TogetherTest(ViewTest):
    def both(self):
        one = {"c": [1, 2], "a": [3, 0], "b": [5, 6]}
        other = {"a": [7, 8, 9], "d": [0, 0, 0], "c": [10, 11, 12]}
        return sheet_of({"t": (2, one), "u": (3, other)})

    def test_rows_and_columns_of_two_tables(self):
        sheet = self.both()
        view = Together(Whole(sheet, "t"), Whole(sheet, "u"))
        self.assertEqual(view.columns(), ["c", "a"])
        self.shows(view, "c", [1, 2, 10, 11, 12])
        self.shows(view, "a", [3, 0, 7, 8, 9])
        view = Together(Whole(sheet, "u"), Whole(sheet, "t"))
        self.assertEqual(view.columns(), ["a", "c"])
        self.shows(view, "a", [7, 8, 9, 3, 0])

    def test_columns_that_only_one_has(self):
        sheet = self.both()
        view = Together(Whole(sheet, "t"), Whole(sheet, "u"))
        for column in ["b", "d"]:
            self.refused(NoColumn, view, "look", column, 0)
            self.refused(NoColumn, view, "shown", column)

    def test_no_columns_that_both_have(self):
        sheet = sheet_of({"t": (2, {"a": [1, 2]}), "u": (3, {"b": [1, 2, 3]})})
        view = Together(Whole(sheet, "t"), Whole(sheet, "u"))
        self.assertEqual((view.columns(), view.many()), ([], 5))

    def test_one_view_twice(self):
        sheet = self.both()
        some = Some(Whole(sheet, "t"), "a")
        view = Together(some, some)
        self.shows(view, "b", [5, 5])
        self.spots(view, "b", [[("t", "b", 0)], [("t", "b", 0)]])

    def test_spots_and_puts(self):
        sheet = self.both()
        view = Together(Whole(sheet, "t"), Whole(sheet, "u"))
        spots = [("t", "a", 0), ("t", "a", 1), ("u", "a", 0), ("u", "a", 1), ("u", "a", 2)]
        self.spots(view, "a", [[spot] for spot in spots])
        for place, spot in enumerate(spots):
            self.puts(sheet, view, "a", place, spot)

    def test_of_two_sheets(self):
        one, other = self.both(), self.both()
        view = Together(Whole(one, "t"), Whole(other, "t"))
        view.put("b", 2, 99)
        self.assertEqual(one.stretch("t", "b", 0, 2), [5, 6])
        self.assertEqual(other.stretch("t", "b", 0, 2), [99, 6])
        self.spots(view, "b", [[("t", "b", 0)], [("t", "b", 1)], [("t", "b", 0)], [("t", "b", 1)]])

    def test_ordered(self):
        sheet = self.both()
        view = Ordered(Together(Whole(sheet, "u"), Whole(sheet, "t")), "a")
        self.shows(view, "c", [2, 1, 10, 11, 12])
        self.puts(sheet, view, "c", 1, ("t", "c", 0))


class BesideTest(ViewTest):
    def test_the_first_row_that_matches(self):
        sheet = self.sheet()
        view = Beside(Whole(sheet, "t"), "k", sheet, "u", "n")
        self.assertEqual(view.columns(), ["a", "b", "k", "u.n", "u.v"])
        self.shows(view, "b", [10, 20, 30, 40, 50])
        self.shows(view, "u.v", [1, 3, LACKS, ILL, 1])
        self.shows(view, "u.n", [7, 8, LACKS, ILL, 7])

    def test_spots(self):
        sheet = self.sheet()
        view = Beside(Whole(sheet, "t"), "k", sheet, "u", "n")
        several = [("u", "v", 0), ("u", "v", 3)]
        self.spots(view, "u.v", [several, [("u", "v", 2)], [], [], several])
        self.spots(view, "b", [[("t", "b", place)] for place in range(5)])

    def test_puts(self):
        sheet = self.sheet()
        view = Beside(Whole(sheet, "t"), "k", sheet, "u", "n")
        self.puts(sheet, view, "u.v", 1, ("u", "v", 2))
        self.puts(sheet, view, "u.n", 1, ("u", "n", 2))
        self.puts(sheet, view, "b", 3, ("t", "b", 3))

    def test_nobody_and_several(self):
        sheet = self.sheet()
        view = Beside(Whole(sheet, "t"), "k", sheet, "u", "n")
        before = stands(sheet)
        for place, error in [(0, Several), (2, Nobody), (3, Nobody), (4, Several)]:
            for value in [1, "x"]:
                self.refused(error, view, "put", "u.v", place, value)
        self.assertEqual(stands(sheet), before)

    def test_within_one_table(self):
        sheet = sheet_of({"t": (3, {"k": [2, 3, 9], "n": [1, 2, 3], "v": [10, 20, 30]})})
        view = Beside(Whole(sheet, "t"), "k", sheet, "t", "n")
        self.assertEqual(view.columns(), ["k", "n", "v", "t.k", "t.n", "t.v"])
        self.shows(view, "v", [10, 20, 30])
        self.shows(view, "t.v", [20, 30, LACKS])
        self.puts(sheet, view, "t.v", 0, ("t", "v", 1))
        self.puts(sheet, view, "v", 0, ("t", "v", 0))

    def test_by_one_column_of_one_table(self):
        sheet = sheet_of({"t": (3, {"k": [2, 2, BAD]})})
        view = Beside(Whole(sheet, "t"), "k", sheet, "t", "k")
        self.shows(view, "t.k", [2, 2, BAD])
        self.spots(view, "t.k", [[("t", "k", 0), ("t", "k", 1)]] * 2 + [[]])

    def test_faults_that_are_shown(self):
        sheet = sheet_of({"t": (2, {"k": [1, 2]}), "u": (2, {"n": [1, BAD], "v": [ILL, 5]})})
        view = Beside(Whole(sheet, "t"), "k", sheet, "u", "n")
        self.shows(view, "u.v", [ILL, LACKS])
        self.spots(view, "u.v", [[("u", "v", 0)], []])

    def test_of_another_sheet(self):
        one, other = self.sheet(), self.sheet()
        other.put("u", "v", 2, 300)
        view = Beside(Whole(one, "t"), "k", other, "u", "n")
        self.shows(view, "u.v", [1, 300, LACKS, ILL, 1])
        view.put("u.v", 1, 4)
        self.assertEqual((one.cell("u", "v", 2), other.cell("u", "v", 2)), (3, 4))

    def test_a_table_of_no_rows(self):
        sheet = sheet_of({"t": (2, {"k": [1, BAD]}), "u": (0, {"n": []})})
        view = Beside(Whole(sheet, "t"), "k", sheet, "u", "n")
        self.shows(view, "u.n", [LACKS, BAD])
        self.refused(Nobody, view, "put", "u.n", 0, 1)

    def test_columns_that_come_later(self):
        sheet = self.sheet()
        view = Beside(Whole(sheet, "t"), "k", sheet, "u", "n")
        sheet.give("t", "z", [0] * 5)
        sheet.rule("u", "w", Cells(["v"], lambda some: -some[0]))
        self.assertEqual(view.columns(), ["a", "b", "k", "z", "u.n", "u.v", "u.w"])
        self.shows(view, "u.w", [-1, -3, LACKS, ILL, -1])

    def test_beside_beside(self):
        tables = {"t": (2, {"k": [1, 2]}), "u": (2, {"n": [2, 1], "v": [5, 6]}), "w": (2, {"n": [6, 5], "v": [60, 50]})}
        sheet = sheet_of(tables)
        view = Beside(Beside(Whole(sheet, "t"), "k", sheet, "u", "n"), "u.v", sheet, "w", "n")
        self.assertEqual(view.columns(), ["k", "u.n", "u.v", "w.n", "w.v"])
        self.shows(view, "w.v", [60, 50])
        self.shows(view, "u.v", [6, 5])
        self.puts(sheet, view, "w.v", 1, ("w", "v", 1))
        self.puts(sheet, view, "u.v", 1, ("u", "v", 0))
        self.puts(sheet, view, "k", 1, ("t", "k", 1))

    def test_tables_of_one_name_from_two_sheets(self):
        one = sheet_of({"t": (1, {"k": [1]}), "u": (1, {"n": [1], "a": [5]})})
        other = sheet_of({"u": (1, {"m": [1], "b": [6]})})
        view = Beside(Beside(Whole(one, "t"), "k", one, "u", "n"), "k", other, "u", "m")
        self.assertEqual(view.columns(), ["k", "u.n", "u.a", "u.m", "u.b"])
        self.shows(view, "u.a", [5])
        self.shows(view, "u.b", [6])
        view.put("u.a", 0, 50)
        view.put("u.b", 0, 60)
        self.assertEqual((one.cell("u", "a", 0), other.cell("u", "b", 0)), (50, 60))

    def test_refused_when_made(self):
        sheet = self.sheet()
        whole = Whole(sheet, "t")
        for table in ["v", "tt"] + no_names():
            self.not_made(NoTable, Beside, whole, "k", sheet, table, "n")
        for column in ["z", "n", "u.n"] + no_names():
            self.not_made(NoColumn, Beside, whole, column, sheet, "u", "n")
        for column in ["z", "k", "u.n"] + no_names():
            self.not_made(NoColumn, Beside, whole, "k", sheet, "u", column)

    def test_two_columns_by_one_name(self):
        sheet = self.sheet()
        beside = Beside(Whole(sheet, "t"), "k", sheet, "u", "n")
        self.not_made(NoName, Beside, beside, "k", sheet, "u", "n")
        self.not_made(NoName, Beside, beside, "u.v", sheet, "u", "v")
        self.not_made(NoName, Beside, Cut(Ordered(beside, "a"), 0, 1), "k", sheet, "u", "n")
        self.not_made(NoName, Beside, Together(beside, beside), "a", sheet, "u", "v")
        other = sheet_of({"u": (1, {"v": [1], "m": [2]})})
        self.not_made(NoName, Beside, beside, "k", other, "u", "m")

    def test_first_things_first(self):
        sheet = self.sheet()
        beside = Beside(Whole(sheet, "t"), "k", sheet, "u", "n")
        self.not_made(NoTable, Beside, beside, "z", sheet, "v", "z")
        self.not_made(NoColumn, Beside, beside, "z", sheet, "u", "n")
        self.not_made(NoColumn, Beside, beside, "k", sheet, "u", "z")


class AskedWrongly(ViewTest):
    def views(self, sheet):
        whole = Whole(sheet, "t")
        beside = Beside(whole, "k", sheet, "u", "n")
        return [
            whole, Some(whole, "b"), Ordered(whole, "a"), Cut(whole, 0, 5), Together(whole, Some(whole, "z")), beside,
            Ordered(Some(beside, "b"), "u.v"),
        ]

    def sheet(self):
        sheet = ViewTest.sheet(self)
        sheet.rule("t", "z", Cells([], lambda some: 0))
        return sheet

    def test_no_column_and_no_place(self):
        sheet = self.sheet()
        before = stands(sheet)
        for view in self.views(sheet):
            for column in ["y", "x.v", "t.a", "u.", ".v", "u.v ", "u.z", "v"] + no_names():
                self.refused(NoColumn, view, "look", column, 0)
                self.refused(NoColumn, view, "look", column, 99)
                self.refused(NoColumn, view, "shown", column)
                self.refused(NoColumn, view, "spots", column, 99)
                self.refused(NoColumn, view, "put", column, 99, "x")
            for column in view.columns():
                for place in no_places(view.many()):
                    self.refused(NoPlace, view, "look", column, place)
                    self.refused(NoPlace, view, "spots", column, place)
                    self.refused(NoPlace, view, "put", column, place, "x")
        self.assertEqual(stands(sheet), before)

    def test_what_the_sheet_refuses(self):
        sheet = self.sheet()
        before = stands(sheet)
        for view in self.views(sheet):
            for value in no_values():
                self.refused(NoValue, view, "put", "b", 1, value)
            for value in [1, "x"]:
                self.refused(Ruled, view, "put", "z", 0, value)
        sheet.rule("u", "w", Cells(["v"], sum))
        view = Beside(Whole(sheet, "t"), "k", sheet, "u", "n")
        self.refused(Ruled, view, "put", "u.w", 1, "x")
        self.refused(NoValue, view, "put", "u.v", 1, "x")
        sheet.back()
        self.assertEqual(stands(sheet), before)

    def test_lists_told_are_the_askers_own(self):
        for view in self.views(self.sheet()):
            for ask in [view.columns, lambda: view.shown("b"), lambda: view.spots("b", 0)]:
                told, again = ask(), ask()
                self.assertIsNot(told, again)
                told.clear()
                self.assertEqual(ask(), again)


class SixDeep(ViewTest):
    def test_a_view_of_each_kind(self):
        sheet = self.sheet()
        view = Together(Whole(sheet, "t"), Whole(sheet, "t"))
        view = Beside(view, "k", sheet, "u", "n")
        view = Some(view, "u.v")
        view = Ordered(view, "a")
        view = Cut(view, 1, 5)
        view = Some(view, "a")
        self.shows(view, "b", [50, 10, 10])
        self.shows(view, "u.v", [1, 1, 1])
        self.spots(view, "b", [[("t", "b", 4)], [("t", "b", 0)], [("t", "b", 0)]])
        self.puts(sheet, view, "a", 2, ("t", "a", 0))
        self.refused(Several, view, "put", "u.v", 0, 1)

    def test_many_rows(self):
        sheet = sheet_of({"t": (30, {"a": list(range(30)), "b": Cells(["a"], lambda some: -some[0])})})
        view = Whole(sheet, "t")
        for turn in range(5):
            view = Together(view, view)
        view = Ordered(view, "b")
        self.assertEqual(view.many(), 960)
        self.assertEqual(view.shown("a"), [value for value in reversed(range(30)) for turn in range(32)])

    def test_orders_and_choices_one_upon_another(self):
        sheet = sheet_of({"t": (30, {"a": [place % 5 for place in range(30)], "b": list(range(30))})})
        view = Whole(sheet, "t")
        for turn in range(3):
            view = Some(Ordered(view, "a"), "b")
        expected = sorted(range(1, 30), key=lambda place: place % 5)
        self.shows(view, "b", expected)


class WantedByViews(ViewTest):
    """Just what each asking calls (point 25)."""

    def setUp(self):
        ViewTest.setUp(self)
        self.made = sheet_of({
            "t": (3, {"a": [0, 1, 2], "b": [5, 6, 7], "z": [0, 0, 0]}), "u": (2, {"a": [0, 1], "v": [1, 2]}),
        })
        self.rule("t", "o", lambda value: 2 - value)
        self.rule("t", "c", lambda value: value)
        self.rule("t", "s", lambda value: 1)
        self.rule("u", "n", lambda value: value + 1)
        self.rule("u", "w", lambda value: value + 10)

    def rule(self, table, column, reckon):
        """A column that leans on a, whose calls are noted by its table and name."""
        function = self.notes.made(table + column, lambda some: reckon(some[0]))
        self.made.rule(table, column, Cells(["a"], function))

    def all_of(self, label):
        return [(label, [place]) for place in range(self.made.many(label[0]))]

    def wants(self, ask, told, *calls):
        """What is told, the calls, and that asked again nothing is called; then all is forgotten for the next ask."""
        self.assertEqual(ask(), told)
        self.assertEqual(self.notes.taken(), sorted(calls))
        self.assertEqual(ask(), told)
        self.assertEqual(self.notes.taken(), [])
        self.setUp()

    def refuses(self, error, ask, *calls):
        with self.assertRaises(error):
            ask()
        self.assertEqual(self.notes.taken(), sorted(calls))
        self.setUp()

    def whole(self):
        return Whole(self.made, "t")

    def test_making_one_calls_nothing(self):
        ordered = Ordered(Some(self.whole(), "s"), "o")
        Together(Cut(ordered, 0, 1), Beside(self.whole(), "c", self.made, "u", "n")).columns()
        self.assertEqual(self.notes.taken(), [])

    def test_whole(self):
        self.wants(lambda: self.whole().many(), 3)
        self.wants(lambda: self.whole().look("c", 1), 1, ("tc", [1]))
        self.wants(lambda: self.whole().shown("c"), [0, 1, 2], *self.all_of("tc"))
        self.wants(lambda: self.whole().spots("c", 1), [("t", "c", 1)])
        self.refuses(NoPlace, lambda: self.whole().look("c", 3))
        self.refuses(Ruled, lambda: self.whole().put("c", 1, 1))

    def test_some(self):
        def some():
            return Some(self.whole(), "c")

        self.wants(lambda: some().many(), 2, *self.all_of("tc"))
        self.wants(lambda: some().look("b", 0), 6, *self.all_of("tc"))
        self.wants(lambda: some().look("o", 0), 1, *self.all_of("tc"), ("to", [1]))
        self.wants(lambda: some().shown("o"), [1, 0], *self.all_of("tc"), ("to", [1]), ("to", [2]))
        self.wants(lambda: some().spots("o", 0), [("t", "o", 1)], *self.all_of("tc"))
        self.wants(lambda: some().put("b", 0, 9), None, *self.all_of("tc"))
        self.refuses(Ruled, lambda: some().put("o", 0, 9), *self.all_of("tc"))
        self.refuses(NoValue, lambda: some().put("b", 0, "x"), *self.all_of("tc"))
        for place in [2, -1, True, "x", None]:
            self.refuses(NoPlace, lambda: some().look("o", place), *self.all_of("tc"))
            self.refuses(NoPlace, lambda: some().spots("o", place), *self.all_of("tc"))
            self.refuses(NoPlace, lambda: some().put("o", place, 1), *self.all_of("tc"))
        for column in ["y", None, "t.b"]:
            self.refuses(NoColumn, lambda: some().look(column, 0))
            self.refuses(NoColumn, lambda: some().shown(column))
            self.refuses(NoColumn, lambda: some().spots(column, 0))
            self.refuses(NoColumn, lambda: some().put(column, 0, 1))

    def test_shown_of_no_rows(self):
        self.rule("t", "c", lambda value: 0)
        self.assertEqual(Some(self.whole(), "c").shown("o"), [])
        self.assertEqual(self.notes.taken(), self.all_of("tc"))

    def test_ordered(self):
        def ordered():
            return Ordered(self.whole(), "o")

        self.wants(lambda: ordered().many(), 3, *self.all_of("to"))
        self.wants(lambda: ordered().look("b", 0), 7, *self.all_of("to"))
        self.wants(lambda: ordered().look("c", 0), 2, *self.all_of("to"), ("tc", [2]))
        self.wants(lambda: ordered().look("o", 0), 0, *self.all_of("to"))
        self.wants(lambda: ordered().spots("c", 0), [("t", "c", 2)], *self.all_of("to"))
        self.wants(lambda: ordered().put("b", 0, 9), None, *self.all_of("to"))
        self.refuses(NoPlace, lambda: ordered().look("c", 3), *self.all_of("to"))
        self.refuses(NoColumn, lambda: ordered().look("y", 3))

    def test_ordered_of_one_row(self):
        self.made.take_out("u", 1)
        self.assertEqual(Ordered(Whole(self.made, "u"), "n").many(), 1)
        self.assertEqual(self.notes.taken(), [("un", [0])])

    def test_cut(self):
        def cut():
            return Cut(Ordered(self.whole(), "o"), 1, 1)

        self.wants(lambda: cut().many(), 1, *self.all_of("to"))
        self.wants(lambda: cut().look("c", 0), 1, *self.all_of("to"), ("tc", [1]))
        self.wants(lambda: cut().spots("c", 0), [("t", "c", 1)], *self.all_of("to"))
        self.refuses(NoPlace, lambda: cut().look("c", 1), *self.all_of("to"))
        self.wants(lambda: Cut(Ordered(self.whole(), "o"), 0, 0).many(), 0, *self.all_of("to"))
        self.wants(lambda: Some(Cut(self.whole(), 1, 1), "c").many(), 1, ("tc", [1]))
        self.wants(lambda: Some(Cut(Some(self.whole(), "c"), 1, 9), "o").many(), 0, *self.all_of("tc"), ("to", [2]))

    def test_one_upon_another(self):
        def view():
            return Ordered(Some(self.whole(), "c"), "o")

        both = self.all_of("tc") + [("to", [1]), ("to", [2])]
        self.wants(lambda: view().many(), 2, *both)
        self.wants(lambda: view().look("s", 0), 1, *both, ("ts", [2]))
        self.wants(lambda: view().spots("s", 0), [("t", "s", 2)], *both)

    def test_together(self):
        def view():
            return Together(Some(self.whole(), "c"), Some(Whole(self.made, "u"), "n"))

        both = self.all_of("tc") + self.all_of("un")
        self.wants(lambda: view().many(), 4, *both)
        self.wants(lambda: view().look("a", 0), 1, *both)
        self.wants(lambda: view().look("a", 3), 1, *both)
        self.wants(lambda: view().spots("a", 0), [("t", "a", 1)], *both)
        self.refuses(NoPlace, lambda: view().look("a", 4), *both)
        self.refuses(NoColumn, lambda: view().look("b", 0))

    def test_beside_wants_nothing_for_the_views_columns(self):
        def view():
            return Beside(self.whole(), "c", self.made, "u", "n")

        self.wants(lambda: view().many(), 3)
        self.wants(lambda: view().look("b", 1), 6)
        self.wants(lambda: view().look("o", 1), 1, ("to", [1]))
        self.wants(lambda: view().spots("o", 1), [("t", "o", 1)])
        self.wants(lambda: view().put("b", 1, 9), None)
        self.refuses(NoPlace, lambda: view().look("u.w", 3))
        self.refuses(NoPlace, lambda: view().put("u.w", 3, 1))
        self.refuses(NoColumn, lambda: view().look("u.y", 0))

    def test_beside_wants_the_key_and_theirs_in_all_rows(self):
        def view():
            return Beside(self.whole(), "c", self.made, "u", "n")

        self.wants(lambda: view().look("u.w", 1), 10, ("tc", [1]), *self.all_of("un"), ("uw", [0]))
        self.wants(lambda: view().look("u.w", 0), LACKS, ("tc", [0]), *self.all_of("un"))
        self.wants(lambda: view().look("u.v", 2), 2, ("tc", [2]), *self.all_of("un"))
        self.wants(lambda: view().spots("u.w", 1), [("u", "w", 0)], ("tc", [1]), *self.all_of("un"))
        self.wants(lambda: view().spots("u.w", 0), [], ("tc", [0]), *self.all_of("un"))
        self.wants(lambda: view().put("u.v", 1, 9), None, ("tc", [1]), *self.all_of("un"))
        self.refuses(Nobody, lambda: view().put("u.v", 0, 9), ("tc", [0]), *self.all_of("un"))
        self.refuses(Ruled, lambda: view().put("u.w", 1, 9), ("tc", [1]), *self.all_of("un"))
        both = self.all_of("uw")
        self.wants(lambda: view().shown("u.w"), [LACKS, 10, 11], *self.all_of("tc"), *self.all_of("un"), *both)

    def test_beside_wants_only_the_key_where_that_is_a_fault(self):
        for ask, told in [(lambda view: view.look("u.w", 1), BAD), (lambda view: view.spots("u.w", 1), [])]:
            self.rule("t", "c", lambda value: BAD)
            view = Beside(self.whole(), "c", self.made, "u", "n")
            self.wants(lambda: ask(view), told, ("tc", [1]))
        self.rule("t", "c", lambda value: BAD)
        view = Beside(self.whole(), "c", self.made, "u", "n")
        self.refuses(Nobody, lambda: view.put("u.w", 1, "x"), ("tc", [1]))

    def test_several_that_match(self):
        self.rule("u", "n", lambda value: 1)
        view = Beside(self.whole(), "c", self.made, "u", "n")
        self.refuses(Several, lambda: view.put("u.v", 1, "x"), ("tc", [1]), *self.all_of("un"))

    def test_views_that_go_by_a_column_of_beside(self):
        def view():
            return Some(Beside(self.whole(), "c", self.made, "u", "n"), "u.w")

        beneath = self.all_of("tc") + self.all_of("un") + self.all_of("uw")
        self.wants(lambda: view().many(), 2, *beneath)
        self.wants(lambda: view().spots("b", 0), [("t", "b", 1)], *beneath)

    def test_beside_of_other_views(self):
        def view():
            return Beside(Ordered(self.whole(), "o"), "c", self.made, "u", "n")

        self.wants(lambda: view().many(), 3, *self.all_of("to"))
        self.wants(lambda: view().look("b", 0), 7, *self.all_of("to"))
        self.wants(lambda: view().spots("u.w", 0), [("u", "w", 1)], *self.all_of("to"), ("tc", [2]), *self.all_of("un"))
        self.refuses(NoPlace, lambda: view().spots("u.w", 3), *self.all_of("to"))

    def test_beside_by_a_column_of_beside(self):
        def view():
            beside = Beside(self.whole(), "c", self.made, "u", "n")
            return Beside(beside, "u.v", self.made, "t", "s")

        ahead = [("tc", [1])] + self.all_of("un") + self.all_of("ts")
        self.wants(lambda: view().look("t.b", 1), 5, *ahead)
        self.wants(lambda: view().spots("t.o", 1), [("t", "o", place) for place in range(3)], *ahead)
        self.wants(lambda: view().look("u.v", 1), 1, ("tc", [1]), *self.all_of("un"))

    def test_groups_are_wanted_as_looks_want_them(self):
        self.made.rule("t", "g", Group("c", "b", self.notes.made("tg")))
        self.assertEqual(Some(Cut(self.whole(), 0, 1), "g").many(), 1)
        self.assertEqual(self.notes.taken(), self.all_of("tc") + [("tg", [5])])


class PutsShowThrough(ViewTest):
    def test_the_value_is_shown_where_it_was_put(self):
        sheet = self.sheet()
        view = Beside(Cut(Ordered(Whole(sheet, "t"), "b"), 1, 3), "k", sheet, "u", "n")
        for column, place in [("a", 0), ("b", 0), ("a", 2), ("u.v", 0)]:
            view.put(column, place, 21)
            self.assertEqual(view.look(column, place), 21)

    def test_puts_call_again_only_what_leans_on_them(self):
        sheet = self.sheet()
        sheet.rule("t", "d", Cells(["b"], self.notes.made("d")))
        view = Ordered(Whole(sheet, "t"), "d")
        self.shows(view, "b", [10, 20, 30, 40, 50])
        self.assertEqual(len(self.notes.taken()), 5)
        view.put("b", 1, 60)
        self.assertEqual(self.notes.taken(), [])
        self.shows(view, "b", [10, 30, 40, 50, 60])
        self.assertEqual(self.notes.taken(), [("d", [60])])

    def test_an_empty_sheet_has_no_view(self):
        self.not_made(NoTable, Whole, Sheet(), "t")


if __name__ == "__main__":
    unittest.main()
