import unittest

from lazycols.errors import ColsError, NoColumn, NoName, NoPlace, NoSize, NoValue, TooMuch
from lazycols.tables import Table
from things import SIXTY, SIXTY_ONE, Prickly, no_names, no_places, no_values, no_wholes

EIGHT = ["a", "b", "c", "d", "e", "f", "g", "h"]
ODD = ("fault", "odd")


def table_of(columns, many):
    table = Table(many)
    for column, values in columns.items():
        table.give(column, values)
    return table


def all_of(table):
    """All that a table tells, its columns in their order."""
    columns = [
        (column, [table.at(column, place) for place in range(table.many())]) for column in table.columns()
    ]
    return (table.many(), table.numbers(), columns)


class TableTest(unittest.TestCase):
    def refused(self, error, table, method, *handed):
        """The call is refused by just this class, and the table tells what it told."""
        before = all_of(table)
        with self.assertRaises(ColsError) as caught:
            getattr(table, method)(*handed)
        self.assertIs(type(caught.exception), error)
        self.assertEqual(all_of(table), before)


class Made(TableTest):
    def test_rows_and_no_columns(self):
        for many in [0, 1, 2, 29, 30]:
            table = Table(many)
            self.assertEqual(table.many(), many)
            self.assertEqual(table.numbers(), list(range(many)))
            self.assertEqual(table.columns(), [])

    def test_no_size(self):
        for many in no_wholes() + [-1, 31, 32, SIXTY, SIXTY_ONE, -SIXTY_ONE]:
            with self.assertRaises(NoSize):
                Table(many)

    def test_tables_share_nothing(self):
        one, other = Table(1), Table(1)
        one.give("a", [1])
        one.put_in(0, {"a": 2})
        self.assertEqual(all_of(other), (1, [0], []))


class Give(TableTest):
    def test_values_stand_where_they_were_given(self):
        table = table_of({"a": [1, ODD, -3], "b": [SIXTY, -SIXTY, 0]}, 3)
        self.assertEqual(all_of(table), (3, [0, 1, 2], [("a", [1, ODD, -3]), ("b", [SIXTY, -SIXTY, 0])]))

    def test_tells_nothing(self):
        self.assertIsNone(Table(1).give("a", [1]))

    def test_columns_in_the_order_in_which_they_came(self):
        table = table_of({"b": [], "c": [], "a": []}, 0)
        self.assertEqual(table.columns(), ["b", "c", "a"])

    def test_a_column_that_is_there_keeps_its_place(self):
        table = table_of({"b": [1], "c": [2], "a": [3]}, 1)
        table.give("b", [9])
        self.assertEqual(all_of(table), (1, [0], [("b", [9]), ("c", [2]), ("a", [3])]))

    def test_no_name(self):
        table = table_of({"a": [1]}, 1)
        for column in no_names():
            self.refused(NoName, table, "give", column, [1])

    def test_eight_columns_and_no_ninth(self):
        table = table_of({column: [1] for column in EIGHT}, 1)
        self.assertEqual(table.columns(), EIGHT)
        self.refused(TooMuch, table, "give", "i", [1])
        table.give("h", [2])
        self.assertEqual(table.at("h", 0), 2)

    def test_no_value(self):
        table = table_of({"a": [1, 2]}, 2)
        wrong = [[], [1], [1, 2, 3], (1, 2), {0: 1, 1: 2}, {1, 2}, "ab", 12, 0, range(2), iter([1, 2]), None, Prickly()]
        for values in wrong + [[1, value] for value in no_values()] + [[value, 1] for value in no_values()]:
            self.refused(NoValue, table, "give", "a", values)
            self.refused(NoValue, table, "give", "b", values)

    def test_no_value_where_there_are_no_rows(self):
        for values in [[1], (), {}, None, "", 0]:
            self.refused(NoValue, Table(0), "give", "a", values)

    def test_first_things_first(self):
        table = table_of({column: [1] for column in EIGHT}, 1)
        self.refused(NoName, table, "give", "I", [])
        self.refused(TooMuch, table, "give", "i", [])
        self.refused(NoValue, table, "give", "h", [])


class Drop(TableTest):
    def test_the_column_goes(self):
        table = table_of({"a": [1], "b": [2], "c": [3]}, 1)
        self.assertIsNone(table.drop("b"))
        self.assertEqual(all_of(table), (1, [0], [("a", [1]), ("c", [3])]))
        self.refused(NoColumn, table, "at", "b", 0)

    def test_given_again_it_comes_last(self):
        table = table_of({"a": [1], "b": [2]}, 1)
        table.drop("a")
        table.give("a", [3])
        self.assertEqual(table.columns(), ["b", "a"])

    def test_makes_room_for_another_column(self):
        table = table_of({column: [1] for column in EIGHT}, 1)
        table.drop("a")
        table.give("i", [2])
        self.assertEqual(table.columns(), EIGHT[1:] + ["i"])

    def test_rows_stay_where_no_column_is_left(self):
        table = table_of({"a": [1, 2]}, 2)
        table.drop("a")
        self.assertEqual(all_of(table), (2, [0, 1], []))

    def test_no_column(self):
        table = table_of({"a": [1]}, 1)
        for column in ["b", "aa"] + no_names():
            self.refused(NoColumn, table, "drop", column)
        table.drop("a")
        self.refused(NoColumn, table, "drop", "a")


class PutAndAt(TableTest):
    def test_put_changes_one_cell(self):
        table = table_of({"a": [1, 2, 3], "b": [4, 5, 6]}, 3)
        self.assertIsNone(table.put("a", 0, ODD))
        table.put("b", 2, -SIXTY)
        self.assertEqual(all_of(table), (3, [0, 1, 2], [("a", [ODD, 2, 3]), ("b", [4, 5, -SIXTY])]))

    def test_no_column(self):
        table = table_of({"a": [1]}, 1)
        for column in ["b", "aa"] + no_names():
            self.refused(NoColumn, table, "put", column, 0, 2)
            self.refused(NoColumn, table, "at", column, 0)

    def test_no_place(self):
        for many in [0, 1, 3]:
            table = table_of({"a": [7] * many}, many)
            for place in no_places(many):
                self.refused(NoPlace, table, "put", "a", place, 2)
                self.refused(NoPlace, table, "at", "a", place)

    def test_no_value(self):
        table = table_of({"a": [1]}, 1)
        for value in no_values():
            self.refused(NoValue, table, "put", "a", 0, value)

    def test_first_things_first(self):
        table = table_of({"a": [1]}, 1)
        self.refused(NoColumn, table, "put", "b", 1, "x")
        self.refused(NoColumn, table, "at", "b", 1)
        self.refused(NoPlace, table, "put", "a", 1, "x")


class PutIn(TableTest):
    def test_at_each_place(self):
        expected = {0: [7, 1, 2], 1: [1, 7, 2], 2: [1, 2, 7]}
        numbers = {0: [2, 0, 1], 1: [0, 2, 1], 2: [0, 1, 2]}
        for place in expected:
            table = table_of({"a": [1, 2], "b": [3, ODD]}, 2)
            self.assertIsNone(table.put_in(place, {"b": 8, "a": 7}))
            self.assertEqual(table.numbers(), numbers[place])
            self.assertEqual([table.at("a", row) for row in range(3)], expected[place])
            self.assertEqual(table.at("b", place), 8)
            self.assertEqual(table.columns(), ["a", "b"])

    def test_into_a_table_without_rows_or_columns(self):
        table = Table(0)
        table.put_in(0, {})
        self.assertEqual(all_of(table), (1, [0], []))

    def test_no_place(self):
        for many in [0, 1, 3]:
            table = table_of({"a": [7] * many}, many)
            for place in no_places(many + 1):
                self.refused(NoPlace, table, "put_in", place, {"a": 1})

    def test_thirty_rows_and_no_more(self):
        table = table_of({"a": [0] * 29}, 29)
        table.put_in(29, {"a": 1})
        self.assertEqual(table.many(), 30)
        for place in [0, 15, 30]:
            self.refused(TooMuch, table, "put_in", place, {"a": 1})
        table.take_out(3)
        table.put_in(0, {"a": 1})
        self.assertEqual(table.many(), 30)

    def test_no_value(self):
        table = table_of({"a": [1], "b": [2]}, 1)
        wrong = [
            {}, {"a": 1}, {"b": 1}, {"a": 1, "c": 1}, {"a": 1, "b": 2, "c": 3}, {"a": 1, 0: 2}, {"a": 1, "B": 2},
            {"a": 1, None: 2}, {"a": 1, ("b",): 2}, [], [1, 2], ["a", "b"], [("a", 1), ("b", 2)], "ab", {"a", "b"},
            None, 2, True, Prickly(),
        ]
        for values in wrong + [{"a": 1, "b": value} for value in no_values()]:
            self.refused(NoValue, table, "put_in", 0, values)
        for value in no_values():
            self.refused(NoValue, table, "put_in", 1, {"a": value, "b": 1})

    def test_no_value_where_there_are_no_columns(self):
        for values in [{"a": 1}, [], None, (), 0]:
            self.refused(NoValue, Table(1), "put_in", 0, values)

    def test_keys_that_cannot_be_compared(self):
        class Sly(Prickly):
            def __hash__(self):
                return hash("a")

        self.refused(NoValue, table_of({"a": [1]}, 1), "put_in", 0, {Sly(): 1})
        self.refused(NoValue, table_of({"a": [1], "b": [1]}, 1), "put_in", 0, {"b": 1, Sly(): 1})

    def test_first_things_first(self):
        table = table_of({"a": [0] * 30}, 30)
        self.refused(NoPlace, table, "put_in", 31, {})
        self.refused(TooMuch, table, "put_in", 30, {})
        self.refused(NoPlace, table_of({"a": [0]}, 1), "put_in", 2, {})


class TakeOut(TableTest):
    def test_at_each_place(self):
        for place in range(3):
            table = table_of({"a": [1, 2, 3], "b": [4, 5, 6]}, 3)
            self.assertIsNone(table.take_out(place))
            left = [row for row in range(3) if row != place]
            columns = [("a", [row + 1 for row in left]), ("b", [row + 4 for row in left])]
            self.assertEqual(all_of(table), (2, left, columns))

    def test_to_the_last_row(self):
        table = table_of({"a": [1]}, 1)
        table.take_out(0)
        self.assertEqual(all_of(table), (0, [], [("a", [])]))
        self.refused(NoPlace, table, "take_out", 0)

    def test_no_place(self):
        for many in [0, 1, 3]:
            table = table_of({"a": [7] * many}, many)
            for place in no_places(many):
                self.refused(NoPlace, table, "take_out", place)


class RowNumbers(TableTest):
    def test_no_number_comes_again(self):
        table = Table(3)
        table.take_out(2)
        table.put_in(2, {})
        self.assertEqual(table.numbers(), [0, 1, 3])
        table.take_out(2)
        table.put_in(0, {})
        self.assertEqual(table.numbers(), [4, 0, 1])

    def test_also_not_where_all_rows_went(self):
        table = Table(2)
        table.take_out(0)
        table.take_out(0)
        table.put_in(0, {})
        table.put_in(0, {})
        self.assertEqual(table.numbers(), [3, 2])

    def test_the_first_row_of_an_empty_table_has_0(self):
        table = Table(0)
        table.put_in(0, {})
        table.take_out(0)
        table.put_in(0, {})
        self.assertEqual(table.numbers(), [1])

    def test_what_is_refused_spends_no_number(self):
        table = table_of({"a": [1] * 30}, 30)
        self.refused(TooMuch, table, "put_in", 0, {"a": 1})
        table.take_out(0)
        self.refused(NoValue, table, "put_in", 0, {})
        self.refused(NoPlace, table, "put_in", 30, {"a": 1})
        table.put_in(29, {"a": 1})
        self.assertEqual(table.numbers()[-1], 30)


class StandingAgain(TableTest):
    """What sheets need of a table to take changes back."""

    def test_the_number_and_the_row_at_a_place(self):
        table = table_of({"a": [1, 2], "b": [3, ODD]}, 2)
        table.put_in(1, {"a": 5, "b": 6})
        self.assertEqual([table.number_at(place) for place in range(3)], [0, 2, 1])
        self.assertEqual(table.row_at(2), {"a": 2, "b": ODD})
        table.row_at(2).clear()
        self.assertEqual(table.row_at(2), {"a": 2, "b": ODD})

    def test_no_place(self):
        table = table_of({"a": [1, 2]}, 2)
        for place in no_places(2):
            self.refused(NoPlace, table, "number_at", place)
            self.refused(NoPlace, table, "row_at", place)

    def test_a_row_stands_again_with_its_number(self):
        for place in range(3):
            table = table_of({"a": [1, 2, 3], "b": [4, 5, 6]}, 3)
            before = all_of(table)
            number, row = table.number_at(place), table.row_at(place)
            table.take_out(place)
            table.stand(place, number, row)
            self.assertEqual(all_of(table), before)
            table.put_in(0, row)
            self.assertEqual(table.numbers(), [3, 0, 1, 2])


class Copies(TableTest):
    def test_values_handed_in(self):
        values = [1, 2]
        table = table_of({"a": values, "b": values}, 2)
        values[0] = 9
        values.append(3)
        table.put("a", 1, 5)
        table.put_in(0, {"a": 7, "b": 7})
        self.assertEqual(all_of(table), (3, [2, 0, 1], [("a", [7, 1, 5]), ("b", [7, 1, 2])]))
        self.assertEqual(values, [9, 2, 3])

    def test_a_row_handed_in(self):
        row = {"a": 1}
        table = table_of({"a": []}, 0)
        table.put_in(0, row)
        row["a"] = 2
        row["b"] = 3
        self.assertEqual(all_of(table), (1, [0], [("a", [1])]))
        table.put("a", 0, 4)
        self.assertEqual(row, {"a": 2, "b": 3})

    def test_lists_told(self):
        table = table_of({"a": [1, 2]}, 2)
        numbers, columns = table.numbers(), table.columns()
        table.put_in(0, {"a": 3})
        table.give("b", [1, 2, 3])
        self.assertEqual((numbers, columns), ([0, 1], ["a"]))
        table.numbers().clear()
        table.columns().append("z")
        self.assertEqual((table.numbers(), table.columns()), ([2, 0, 1], ["a", "b"]))


if __name__ == "__main__":
    unittest.main()
