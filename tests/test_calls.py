"""What is remembered, what is called, and what is wanted (points 3, 4 and 14 to 19)."""

import unittest

from lazycols.errors import ColsError
from lazycols.rules import Above, Cells, Group, Lookup, Mend
from things import SIXTY, Notes, sheet_of

BAD = ("fault", "bad")
ILL = ("fault", "ill")
LACKS = ("fault", "lacks")


class CallsTest(unittest.TestCase):
    def setUp(self):
        self.notes = Notes()

    def called(self, *calls):
        """Just these calls were made since this was asked last, in whatever order."""
        self.assertEqual(self.notes.taken(), sorted(calls))

    def column(self, sheet, table, column, expected, *calls):
        """A look at a whole column, and just the calls that it makes."""
        self.assertEqual(sheet.stretch(table, column, 0, sheet.many(table)), expected)
        self.called(*calls)

    def chain(self):
        """a and b are given; c leans on a, d on c and b."""
        self.double = self.notes.made("c", lambda some: some[0] * 2)
        rules = {"c": Cells(["a"], self.double), "d": Cells(["c", "b"], self.notes.made("d"))}
        return sheet_of({"t": (2, {"a": [1, 2], "b": [10, 20], **rules})})


class Remembered(CallsTest):
    def test_nothing_is_called_till_a_look(self):
        sheet = self.chain()
        sheet.put("t", "a", 0, 5)
        sheet.put_in("t", 0, {"a": 3, "b": 4})
        sheet.take_out("t", 1)
        sheet.back()
        sheet.tables(), sheet.columns("t"), sheet.many("t"), sheet.is_ruled("t", "d")
        self.called()

    def test_only_what_is_looked_at(self):
        sheet = self.chain()
        self.assertEqual(sheet.cell("t", "c", 1), 4)
        self.called(("c", [2]))
        self.assertEqual(sheet.cell("t", "d", 0), 12)
        self.called(("c", [1]), ("d", [2, 10]))
        self.assertEqual(sheet.cell("t", "a", 0), 1)
        self.called()

    def test_a_second_look_calls_nothing(self):
        sheet = self.chain()
        self.column(sheet, "t", "d", [12, 24], ("c", [1]), ("c", [2]), ("d", [2, 10]), ("d", [4, 20]))
        self.column(sheet, "t", "d", [12, 24])
        self.column(sheet, "t", "c", [2, 4])

    def test_behind_a_put_that_nothing_leans_on(self):
        sheet = self.chain()
        sheet.give("t", "z", [0, 0])
        self.column(sheet, "t", "d", [12, 24], ("c", [1]), ("c", [2]), ("d", [2, 10]), ("d", [4, 20]))
        sheet.put("t", "z", 0, 1)
        sheet.put("t", "a", 1, 2)
        self.column(sheet, "t", "d", [12, 24])

    def test_behind_a_put_that_brings_another_list(self):
        sheet = self.chain()
        sheet.total("t", "d")
        self.notes.taken()
        sheet.put("t", "a", 0, 7)
        self.column(sheet, "t", "d", [24, 24], ("c", [7]), ("d", [14, 10]))
        sheet.put("t", "b", 1, 0)
        self.column(sheet, "t", "d", [24, 4], ("d", [4, 0]))

    def test_only_the_last_list_is_remembered(self):
        sheet = self.chain()
        sheet.total("t", "d")
        self.notes.taken()
        sheet.put("t", "a", 0, 7)
        self.assertEqual(sheet.cell("t", "c", 0), 14)
        self.called(("c", [7]))
        sheet.put("t", "a", 0, 1)
        self.column(sheet, "t", "d", [12, 24], ("c", [1]))

    def test_a_put_and_the_old_value_again_with_no_look_between(self):
        sheet = self.chain()
        sheet.total("t", "d")
        self.notes.taken()
        sheet.put("t", "a", 0, 7)
        sheet.put("t", "a", 0, 1)
        self.column(sheet, "t", "d", [12, 24])

    def test_what_comes_out_alike_stops_there(self):
        rules = {"c": Cells(["a"], self.notes.made("c", lambda some: some[0] % 2)), "d": Cells(["c"], self.notes.made("d"))}
        sheet = sheet_of({"t": (1, {"a": [1], **rules})})
        self.column(sheet, "t", "d", [1], ("c", [1]), ("d", [1]))
        sheet.put("t", "a", 0, 3)
        self.column(sheet, "t", "d", [1], ("c", [3]))

    def test_a_value_leaves_what_is_remembered(self):
        sheet = self.chain()
        sheet.total("t", "d")
        self.notes.taken()
        sheet.put("t", "a", 0, BAD)
        self.column(sheet, "t", "d", [BAD, 24])
        sheet.put("t", "a", 0, 1)
        self.column(sheet, "t", "d", [12, 24])

    def test_faults_that_functions_tell_are_remembered(self):
        rules = {"c": Cells(["a"], self.notes.made("c", lambda some: ILL)), "d": Cells(["c"], self.notes.made("d"))}
        sheet = sheet_of({"t": (1, {"a": [1], **rules})})
        self.column(sheet, "t", "d", [ILL], ("c", [1]))
        self.column(sheet, "t", "d", [ILL])
        sheet.put("t", "a", 0, 2)
        self.column(sheet, "t", "d", [ILL], ("c", [2]))

    def test_what_is_no_value_is_remembered(self):
        for told in [None, True, 10 ** 60, "x", [1]]:
            rule = Cells(["a"], self.notes.made("c", lambda some: told))
            sheet = sheet_of({"t": (1, {"a": [1], "c": rule})})
            self.column(sheet, "t", "c", [("fault", "odd")], ("c", [1]))
            self.column(sheet, "t", "c", [("fault", "odd")])

    def test_empty_lists_are_remembered(self):
        rules = {"c": Cells([], self.notes.made("c")), "m": Mend("a", self.notes.made("m", lambda some: 5))}
        sheet = sheet_of({"t": (2, {"a": [BAD, 3], **rules})})
        self.column(sheet, "t", "c", [0, 0], ("c", []), ("c", []))
        self.column(sheet, "t", "c", [0, 0])
        self.column(sheet, "t", "m", [5, 3], ("m", []))
        sheet.put("t", "a", 0, ILL)
        sheet.put("t", "a", 1, ILL)
        self.column(sheet, "t", "m", [5, 5], ("m", []))
        sheet.put("t", "a", 0, 1)
        self.column(sheet, "t", "m", [1, 5])
        sheet.put("t", "a", 0, BAD)
        self.column(sheet, "t", "m", [5, 5])

    def test_lists_in_another_order_are_unlike(self):
        sheet = sheet_of({"t": (1, {"a": [1], "b": [2], "c": Cells(["a", "b"], self.notes.made("c"))})})
        self.column(sheet, "t", "c", [3], ("c", [1, 2]))
        sheet.put("t", "a", 0, 2)
        sheet.put("t", "b", 0, 1)
        self.column(sheet, "t", "c", [3], ("c", [2, 1]))

    def test_each_cell_remembers_for_itself(self):
        sheet = sheet_of({"t": (3, {"a": [1, 1, 1], "c": Cells(["a"], self.notes.made("c"))})})
        self.column(sheet, "t", "c", [1, 1, 1], ("c", [1]), ("c", [1]), ("c", [1]))

    def test_a_list_like_that_of_another_row(self):
        sheet = sheet_of({"t": (2, {"a": [1, 2], "c": Cells(["a"], self.notes.made("c"))})})
        self.column(sheet, "t", "c", [1, 2], ("c", [1]), ("c", [2]))
        sheet.put("t", "a", 0, 2)
        sheet.put("t", "a", 1, 1)
        self.column(sheet, "t", "c", [2, 1], ("c", [1]), ("c", [2]))

    def test_a_cell_wanted_several_times_in_one_look(self):
        rules = {"c": Cells(["a"], self.notes.made("c")), "d": Cells(["c", "c"], self.notes.made("d"))}
        rules["e"] = Cells(["d", "c", "d"], self.notes.made("e"))
        sheet = sheet_of({"t": (1, {"a": [1], **rules})})
        self.column(sheet, "t", "e", [5], ("c", [1]), ("d", [1, 1]), ("e", [2, 1, 2]))


class RowsAndColumns(CallsTest):
    def test_a_cell_is_that_of_its_row_wherever_it_stands(self):
        sheet = self.chain()
        sheet.total("t", "d")
        self.notes.taken()
        sheet.put_in("t", 0, {"a": 5, "b": 50})
        self.column(sheet, "t", "d", [60, 12, 24], ("c", [5]), ("d", [10, 50]))
        sheet.take_out("t", 1)
        self.column(sheet, "t", "d", [60, 24])
        sheet.take_out("t", 0)
        self.column(sheet, "t", "d", [24])

    def test_a_row_put_in_is_a_new_one(self):
        sheet = self.chain()
        sheet.total("t", "d")
        self.notes.taken()
        sheet.take_out("t", 1)
        sheet.put_in("t", 1, {"a": 2, "b": 20})
        self.column(sheet, "t", "d", [12, 24], ("c", [2]), ("d", [4, 20]))

    def test_above_follows_the_places(self):
        sheet = sheet_of({"t": (3, {"a": [1, 2, 3], "s": Above(0, ["a"], self.notes.made("s"))})})
        self.column(sheet, "t", "s", [1, 3, 6], ("s", [0, 1]), ("s", [1, 2]), ("s", [3, 3]))
        sheet.put_in("t", 0, {"a": 0})
        self.column(sheet, "t", "s", [0, 1, 3, 6], ("s", [0, 0]))
        sheet.take_out("t", 1)
        self.column(sheet, "t", "s", [0, 2, 5], ("s", [0, 2]), ("s", [2, 3]))

    def test_ruled_again_a_column_forgets(self):
        sheet = self.chain()
        self.column(sheet, "t", "d", [12, 24], ("c", [1]), ("c", [2]), ("d", [2, 10]), ("d", [4, 20]))
        sheet.rule("t", "c", Cells(["a"], self.double))
        self.column(sheet, "t", "d", [12, 24], ("c", [1]), ("c", [2]))

    def test_given_and_ruled_again_a_column_forgets(self):
        sheet = self.chain()
        sheet.total("t", "d")
        self.notes.taken()
        sheet.give("t", "c", [2, 5])
        self.column(sheet, "t", "d", [12, 25], ("d", [5, 20]))
        sheet.rule("t", "c", Cells(["a"], self.double))
        self.column(sheet, "t", "d", [12, 24], ("c", [1]), ("c", [2]), ("d", [4, 20]))

    def test_nothing_else_forgets(self):
        sheet = self.chain()
        sheet.total("t", "d")
        self.notes.taken()
        sheet.table("u", 3)
        sheet.give("t", "z", [1, 2])
        sheet.rule("t", "y", Cells(["a"], self.notes.made("y")))
        sheet.give("t", "a", [1, 2])
        sheet.rule("t", "b", Cells(["z"], lambda some: some[0] * 10))
        self.column(sheet, "t", "d", [12, 24])


class Wanted(CallsTest):
    def ruled(self, values, **others):
        """A table whose column c has these values, told by calls noted as c."""
        rule = Cells(["a"], self.notes.made("c", lambda some: values[some[0]]))
        return sheet_of({"t": (len(values), {"a": list(range(len(values))), "c": rule, **others})})

    def test_a_stretch_wants_its_places_alone(self):
        sheet = self.ruled([5, BAD, 7, 8])
        self.assertEqual(sheet.stretch("t", "c", 1, 3), [BAD, 7])
        self.called(("c", [1]), ("c", [2]))
        self.assertEqual(sheet.stretch("t", "c", 4, 4), [])
        self.called()
        self.assertEqual(sheet.stretch("t", "c", 0, 4), [5, BAD, 7, 8])
        self.called(("c", [0]), ("c", [3]))

    def test_a_total_wants_all_to_the_first_fault(self):
        sheet = self.ruled([5, 6, BAD, 7])
        self.assertEqual(sheet.total("t", "c"), BAD)
        self.called(("c", [0]), ("c", [1]), ("c", [2]))
        sheet = self.ruled([5, SIXTY, SIXTY])
        self.assertEqual(sheet.total("t", "c"), 5 + 2 * SIXTY)
        self.called(("c", [0]), ("c", [1]), ("c", [2]))

    def test_cells_want_none_behind_a_fault(self):
        sheet = self.ruled([5, 6], b=[BAD, 1])
        sheet.rule("t", "d", Cells(["b", "c"], self.notes.made("d")))
        sheet.rule("t", "e", Cells(["c", "b"], self.notes.made("e")))
        self.column(sheet, "t", "d", [BAD, 7], ("c", [1]), ("d", [1, 6]))
        self.column(sheet, "t", "e", [BAD, 7], ("c", [0]), ("e", [6, 1]))

    def test_above_wants_all_above(self):
        sheet = self.ruled([1, 2, 3, 4])
        sheet.rule("t", "s", Above(0, ["c"], self.notes.made("s")))
        self.assertEqual(sheet.cell("t", "s", 2), 6)
        self.called(("c", [0]), ("c", [1]), ("c", [2]), ("s", [0, 1]), ("s", [1, 2]), ("s", [3, 3]))

    def test_above_wants_none_behind_a_fault(self):
        sheet = self.ruled([1, BAD, 3, 4])
        sheet.rule("t", "s", Above(0, ["c"], self.notes.made("s")))
        self.assertEqual(sheet.cell("t", "s", 3), BAD)
        self.called(("c", [0]), ("c", [1]), ("s", [0, 1]))

    def test_group_wants_all_keys_and_the_names_of_its_own(self):
        sheet = self.ruled([7, 8, 7, BAD])
        sheet.rule("t", "v", Cells(["a"], self.notes.made("v")))
        sheet.rule("t", "g", Group("c", "v", self.notes.made("g")))
        self.assertEqual(sheet.cell("t", "g", 0), 2)
        keys = [("c", [place]) for place in range(4)]
        self.called(*keys, ("v", [0]), ("v", [2]), ("g", [0, 2]))
        self.assertEqual(sheet.cell("t", "g", 3), BAD)
        self.called()

    def test_group_wants_only_its_own_key_where_that_is_a_fault(self):
        sheet = self.ruled([7, BAD])
        sheet.rule("t", "g", Group("c", "a", self.notes.made("g")))
        self.assertEqual(sheet.cell("t", "g", 1), BAD)
        self.called(("c", [1]))

    def test_group_wants_none_behind_a_fault_in_the_group(self):
        sheet = self.ruled([7, 7, 7], v=[1, BAD, 2])
        sheet.rule("t", "g", Group("c", "v", self.notes.made("g")))
        self.assertEqual(sheet.cell("t", "g", 0), BAD)
        self.called(("c", [0]), ("c", [1]))

    def test_lookup_wants_rows_to_the_one_that_matches(self):
        sheet = self.ruled([BAD, 7, 9, 7])
        sheet.rule("t", "v", Cells(["a"], self.notes.made("v")))
        sheet.table("u", 3)
        sheet.give("u", "k", [7, 8, ILL])
        sheet.rule("u", "l", Lookup("k", "t", "c", ["v"], self.notes.made("l")))
        self.assertEqual(sheet.cell("u", "l", 2), ILL)
        self.called()
        self.assertEqual(sheet.cell("u", "l", 0), 1)
        self.called(("c", [0]), ("c", [1]), ("v", [1]), ("l", [1]))
        self.assertEqual(sheet.cell("u", "l", 1), LACKS)
        self.called(("c", [2]), ("c", [3]))

    def test_mend_calls_only_for_a_fault(self):
        sheet = self.ruled([7, BAD])
        sheet.rule("t", "m", Mend("c", self.notes.made("m", lambda some: 3)))
        self.assertEqual(sheet.cell("t", "m", 0), 7)
        self.called(("c", [0]))
        self.assertEqual(sheet.cell("t", "m", 1), 3)
        self.called(("c", [1]), ("m", []))

    def test_refusals_call_nothing(self):
        sheet = self.ruled([5, 6])
        for method, handed in [
            ("cell", ("u", "c", 0)), ("cell", ("t", "z", 0)), ("cell", ("t", "c", 2)), ("cell", ("t", "c", True)),
            ("stretch", ("u", "c", 0, 1)), ("stretch", ("t", "z", 0, 1)), ("stretch", ("t", "c", 0, 3)),
            ("total", ("u", "c")), ("total", ("t", "z")), ("came_of", ("u", "c", 0)), ("came_of", ("t", "z", 0)),
            ("came_of", ("t", "c", -1)), ("put", ("t", "c", 0, 1)), ("put", ("t", "a", 2, 1)), ("put", ("t", "a", 0, "x")),
            ("put_in", ("t", 0, {})), ("take_out", ("t", 2)), ("give", ("t", "c", [1])),
            ("rule", ("t", "c", Cells(["c"], sum))), ("rule", ("t", "c", Cells(["z"], sum))), ("table", ("t", 1)),
        ]:
            with self.assertRaises(ColsError):
                getattr(sheet, method)(*handed)
        self.called()

    def test_a_chain_of_forty_is_called_once_each(self):
        columns = {"a": [1] * 20, "b": Above(0, ["a"], self.notes.made("b")), "c": Above(0, ["b"], self.notes.made("c"))}
        sheet = sheet_of({"t": (20, columns)})
        self.assertEqual(sheet.cell("t", "c", 19), 210)
        self.assertEqual(len(self.notes.taken()), 40)
        self.assertEqual(sheet.cell("t", "c", 19), 210)
        self.called()
        sheet.put("t", "a", 19, 2)
        self.assertEqual(sheet.cell("t", "c", 19), 211)
        self.called(("b", [19, 2]), ("c", [190, 21]))


class LeftAsTheyAre(CallsTest):
    """As long as the cells that it came of stay, a cell stays, and nothing is called for it (point 19)."""

    def test_puts_elsewhere(self):
        made = self.notes.made
        there = {"n": [4, 5, 6], "v": [40, 50, 60]}
        columns = {
            "k": [1, 2, 1, BAD], "v": [10, 20, 30, 40], "g": Group("k", "v", made("g")),
            "s": Above(0, ["v"], made("s")), "c": Cells(["k", "v"], made("c")), "m": Mend("k", made("m")),
        }
        sheet = sheet_of({"t": (4, columns), "u": (3, there)})
        sheet.give("t", "key", [5, 4, 9, 6])
        sheet.rule("t", "l", Lookup("key", "u", "n", ["v"], made("l")))
        given = [("t", column, place) for column in ["k", "v", "key"] for place in range(4)]
        given = given + [("u", column, place) for column in "nv" for place in range(3)]
        for column in "gscml":
            for place in range(4):
                before = sheet.cell("t", column, place)
                came = sheet.came_of("t", column, place)
                self.notes.taken()
                for cell in given:
                    if cell not in came:
                        for value in [4, 77, ILL]:
                            sheet.put(*cell, value)
                            self.assertEqual(sheet.cell("t", column, place), before)
                            self.assertEqual(sheet.came_of("t", column, place), came)
                            sheet.back()
                self.called()


if __name__ == "__main__":
    unittest.main()
