import unittest

from lazycols.errors import NoName, NoValue
from lazycols.rules import Above, Cells, Group, Lookup, Mend, Rule
from things import SIXTY, SIXTY_ONE, Board, RuleTest, no_names, no_values

BAD = ("fault", "bad")
ILL = ("fault", "ill")
LACKS = ("fault", "lacks")
ODD = ("fault", "odd")
SIX = ["a", "b", "c", "d", "e", "f"]


def never(some):
    raise RuntimeError("no look calls a function")


class Making(RuleTest):
    def test_all_stand_right_under_rule(self):
        for kind in [Cells, Above, Group, Lookup, Mend]:
            self.assertEqual(kind.__bases__, (Rule,))

    def test_none_to_six_names(self):
        for names in [[], ["a"], SIX, ["a"] * 6, ["abcdefgh"]]:
            self.assertIsInstance(Cells(names, never), Rule)
            self.assertIsInstance(Above(0, names, never), Rule)
            self.assertIsInstance(Lookup("a", "t", "b", names, never), Rule)

    def test_the_function_is_not_looked_at(self):
        for function in [None, 1, "f", []]:
            Cells(["a"], function)
            Above(1, ["a"], function)
            Group("a", "b", function)
            Lookup("a", "t", "b", ["c"], function)
            Mend("a", function)

    def test_no_list_of_names(self):
        wrong = [SIX + ["g"], ["a"] * 7, ("a",), "a", "", {"a": 1}, {"a"}, iter(["a"]), None, 0, True, never]
        for names in wrong + [[name] for name in no_names()] + [["a", name] for name in no_names()]:
            with self.assertRaises(NoName):
                Cells(names, never)
            with self.assertRaises(NoName):
                Above(0, names, never)
            with self.assertRaises(NoName):
                Lookup("a", "t", "b", names, never)

    def test_no_name(self):
        for name in no_names():
            for handed in [(name, "a"), ("a", name)]:
                with self.assertRaises(NoName):
                    Group(*handed, never)
            for handed in [(name, "t", "b"), ("a", name, "b"), ("a", "t", name)]:
                with self.assertRaises(NoName):
                    Lookup(*handed, ["c"], never)
            with self.assertRaises(NoName):
                Mend(name, never)

    def test_first_has_at_most_sixty_figures(self):
        for first in [0, 1, -1, SIXTY, -SIXTY]:
            self.assertIsInstance(Above(first, [], never), Above)
        for first in [SIXTY_ONE, -SIXTY_ONE, True, False, BAD] + no_values():
            with self.assertRaises(NoValue):
                Above(first, ["a"], never)

    def test_no_name_goes_first(self):
        for names in [["A"], ["a"] * 7, ("a",), None]:
            with self.assertRaises(NoName):
                Above(SIXTY_ONE, names, never)
            with self.assertRaises(NoName):
                Above(True, names, never)


class Leans(RuleTest):
    def test_cells(self):
        self.assertEqual(Cells(["b", "a"], never).leans("t"), [("t", "b"), ("t", "a")])
        self.assertEqual(Cells([], never).leans("t"), [])

    def test_above_does_not_tell_its_own_column(self):
        self.assertEqual(Above(1, ["b", "a"], never).leans("t"), [("t", "b"), ("t", "a")])
        self.assertEqual(Above(1, [], never).leans("t"), [])

    def test_group(self):
        self.assertEqual(Group("b", "a", never).leans("t"), [("t", "b"), ("t", "a")])

    def test_lookup(self):
        rule = Lookup("c", "u", "b", ["d", "a"], never)
        self.assertEqual(rule.leans("t"), [("t", "c"), ("u", "b"), ("u", "d"), ("u", "a")])
        self.assertEqual(Lookup("c", "u", "b", [], never).leans("t"), [("t", "c"), ("u", "b")])

    def test_lookup_in_its_own_table(self):
        rule = Lookup("c", "t", "b", ["c", "a", "b"], never)
        self.assertEqual(rule.leans("t"), [("t", "c"), ("t", "b"), ("t", "a")])
        self.assertEqual(rule.leans("v"), [("v", "c"), ("t", "b"), ("t", "c"), ("t", "a")])

    def test_mend(self):
        self.assertEqual(Mend("a", never).leans("t"), [("t", "a")])

    def test_named_twice_leaned_on_once(self):
        self.assertEqual(Cells(["b", "a", "b", "a"], never).leans("t"), [("t", "b"), ("t", "a")])
        self.assertEqual(Above(1, ["b", "a", "b"], never).leans("t"), [("t", "b"), ("t", "a")])
        self.assertEqual(Group("a", "a", never).leans("t"), [("t", "a")])
        self.assertEqual(Lookup("a", "t", "a", ["a", "a"], never).leans("t"), [("t", "a")])
        self.assertEqual(Lookup("a", "u", "a", ["b", "a", "b"], never).leans("t"), [("t", "a"), ("u", "a"), ("u", "b")])


class GatherCells(RuleTest):
    def setUp(self):
        self.board = Board({"t": {"a": [1, 2, BAD], "b": [10, BAD, ILL], "c": [SIXTY, 0, 7]}}, {"t": 3})

    def test_in_the_order_of_the_names(self):
        rule = Cells(["c", "a", "b"], never)
        self.gathers(rule, self.board, 0, ("call", [SIXTY, 1, 10]), self.in_t(("c", 0), ("a", 0), ("b", 0)))

    def test_nothing_behind_the_first_fault(self):
        rule = Cells(["a", "b", "c"], never)
        self.gathers(rule, self.board, 1, ("value", BAD), self.in_t(("a", 1), ("b", 1)))
        self.gathers(rule, self.board, 2, ("value", BAD), self.in_t(("a", 2)))
        self.gathers(Cells(["b", "a"], never), self.board, 2, ("value", ILL), self.in_t(("b", 2)))
        self.gathers(Cells(["c", "b"], never), self.board, 2, ("value", ILL), self.in_t(("c", 2), ("b", 2)))

    def test_no_names(self):
        self.gathers(Cells([], never), self.board, 2, ("call", []), [])

    def test_named_twice(self):
        rule = Cells(["a", "c", "a"], never)
        self.gathers(rule, self.board, 1, ("call", [2, 0, 2]), self.in_t(("a", 1), ("c", 1), ("a", 1)))

    def test_six_names(self):
        board = Board({"t": {name: [number] for number, name in enumerate(SIX)}}, {"t": 1})
        looks = self.in_t(*[(name, 0) for name in SIX])
        self.gathers(Cells(SIX, never), board, 0, ("call", [0, 1, 2, 3, 4, 5]), looks)


class GatherAbove(RuleTest):
    def setUp(self):
        columns = {"x": [3, BAD, 5, 6], "a": [1, 2, ILL, BAD], "b": [10, 20, 30, ILL]}
        self.board = Board({"t": columns}, {"t": 4})

    def test_the_row_at_place_0_takes_first(self):
        rule = Above(-SIXTY, ["b", "a"], never)
        self.gathers(rule, self.board, 0, ("call", [-SIXTY, 10, 1]), self.in_t(("b", 0), ("a", 0)))

    def test_the_row_above_comes_first(self):
        rule = Above(9, ["b", "a"], never)
        self.gathers(rule, self.board, 1, ("call", [3, 20, 2]), self.in_t(("x", 0), ("b", 1), ("a", 1)))

    def test_a_fault_above_is_the_value(self):
        self.gathers(Above(9, ["a", "b"], never), self.board, 2, ("value", BAD), self.in_t(("x", 1)))

    def test_a_fault_in_the_same_row(self):
        looks = self.in_t(("x", 2), ("a", 3))
        self.gathers(Above(9, ["a", "b"], never), self.board, 3, ("value", BAD), looks)
        looks = self.in_t(("x", 2), ("b", 3))
        self.gathers(Above(9, ["b", "a"], never), self.board, 3, ("value", ILL), looks)

    def test_a_fault_in_the_row_at_place_0(self):
        board = Board({"t": {"a": [1], "b": [BAD], "c": [2]}}, {"t": 1})
        self.gathers(Above(9, ["a", "b", "c"], never), board, 0, ("value", BAD), self.in_t(("a", 0), ("b", 0)))

    def test_no_names(self):
        self.gathers(Above(9, [], never), self.board, 0, ("call", [9]), [])
        self.gathers(Above(9, [], never), self.board, 3, ("call", [5]), self.in_t(("x", 2)))

    def test_named_twice(self):
        looks = self.in_t(("x", 0), ("a", 1), ("a", 1))
        self.gathers(Above(9, ["a", "a"], never), self.board, 1, ("call", [3, 2, 2]), looks)


class GatherGroup(RuleTest):
    def setUp(self):
        columns = {"k": [1, 2, 1, BAD, 1], "v": [10, 20, 30, ILL, 50]}
        self.board = Board({"t": columns}, {"t": 5})
        self.rule = Group("k", "v", never)

    def test_all_rows_of_the_group_from_place_0_on(self):
        looks = self.in_t(("k", 2), ("k", 0), ("v", 0), ("k", 1), ("k", 2), ("v", 2), ("k", 3), ("k", 4), ("v", 4))
        self.gathers(self.rule, self.board, 2, ("call", [10, 30, 50]), looks)

    def test_a_row_alone(self):
        looks = self.in_t(("k", 1), ("k", 0), ("k", 1), ("v", 1), ("k", 2), ("k", 3), ("k", 4))
        self.gathers(self.rule, self.board, 1, ("call", [20]), looks)

    def test_a_fault_in_its_own_key(self):
        self.gathers(self.rule, self.board, 3, ("value", BAD), self.in_t(("k", 3)))

    def test_the_first_fault_in_the_group(self):
        self.board.tables["t"]["v"] = [10, 20, BAD, ILL, ILL]
        looks = self.in_t(("k", 4), ("k", 0), ("v", 0), ("k", 1), ("k", 2), ("v", 2))
        self.gathers(self.rule, self.board, 4, ("value", BAD), looks)

    def test_faults_in_rows_of_other_groups(self):
        self.board.tables["t"]["v"] = [10, BAD, 30, ILL, 50]
        looks = self.in_t(("k", 0), ("k", 0), ("v", 0), ("k", 1), ("k", 2), ("v", 2), ("k", 3), ("k", 4), ("v", 4))
        self.gathers(self.rule, self.board, 0, ("call", [10, 30, 50]), looks)

    def test_key_and_name_one_column(self):
        looks = self.in_t(("k", 1), ("k", 0), ("k", 1), ("k", 1), ("k", 2), ("k", 3), ("k", 4))
        self.gathers(Group("k", "k", never), self.board, 1, ("call", [2]), looks)

    def test_only_as_many_rows_as_told(self):
        self.board.rows["t"] = 2
        self.gathers(self.rule, self.board, 0, ("call", [10]), self.in_t(("k", 0), ("k", 0), ("v", 0), ("k", 1)))


class GatherLookup(RuleTest):
    def setUp(self):
        here = {"k": [7, 8, BAD, 9, 5]}
        there = {"key": [BAD, 8, 7, 7, 9], "v": [ILL, 80, 70, ILL, BAD], "w": [ILL, 81, 71, ILL, 91]}
        self.board = Board({"t": here, "u": there}, {"t": 5, "u": 5})
        self.rule = Lookup("k", "u", "key", ["v", "w"], never)

    def test_the_first_row_that_matches(self):
        looks = [("t", "k", 0), ("u", "key", 0), ("u", "key", 1), ("u", "key", 2), ("u", "v", 2), ("u", "w", 2)]
        self.gathers(self.rule, self.board, 0, ("call", [70, 71]), looks)

    def test_no_row_behind_it(self):
        looks = [("t", "k", 1), ("u", "key", 0), ("u", "key", 1), ("u", "v", 1), ("u", "w", 1)]
        self.gathers(self.rule, self.board, 1, ("call", [80, 81]), looks)

    def test_a_fault_in_the_key(self):
        self.gathers(self.rule, self.board, 2, ("value", BAD), [("t", "k", 2)])

    def test_a_fault_in_a_named_column(self):
        keys = [("u", "key", place) for place in range(5)]
        self.gathers(self.rule, self.board, 3, ("value", BAD), [("t", "k", 3)] + keys + [("u", "v", 4)])
        rule = Lookup("k", "u", "key", ["w", "v", "w"], never)
        looks = [("t", "k", 3)] + keys + [("u", "w", 4), ("u", "v", 4)]
        self.gathers(rule, self.board, 3, ("value", BAD), looks)

    def test_no_row_matches(self):
        looks = [("t", "k", 4)] + [("u", "key", place) for place in range(5)]
        self.gathers(self.rule, self.board, 4, ("value", LACKS), looks)

    def test_no_rows_there(self):
        self.board.rows["u"] = 0
        self.gathers(self.rule, self.board, 0, ("value", LACKS), [("t", "k", 0)])

    def test_faults_alike_do_not_match(self):
        self.board.tables["u"]["key"] = [BAD] * 5
        self.gathers(self.rule, self.board, 2, ("value", BAD), [("t", "k", 2)])

    def test_no_names_and_names_twice(self):
        looks = [("t", "k", 1), ("u", "key", 0), ("u", "key", 1)]
        self.gathers(Lookup("k", "u", "key", [], never), self.board, 1, ("call", []), looks)
        rule = Lookup("k", "u", "key", ["v", "key", "v"], never)
        looks = looks + [("u", "v", 1), ("u", "key", 1), ("u", "v", 1)]
        self.gathers(rule, self.board, 1, ("call", [80, 8, 80]), looks)

    def test_the_same_table(self):
        board = Board({"t": {"k": [2, 1], "n": [1, 2], "v": [10, 20]}}, {"t": 2})
        rule = Lookup("k", "t", "n", ["v"], never)
        self.gathers(rule, board, 0, ("call", [20]), self.in_t(("k", 0), ("n", 0), ("n", 1), ("v", 1)))

    def test_tables_of_unlike_length(self):
        board = Board({"t": {"k": [5]}, "u": {"n": [1, 2, 5], "v": [1, 2, 3]}}, {"t": 1, "u": 3})
        rule = Lookup("k", "u", "n", ["v"], never)
        looks = [("t", "k", 0), ("u", "n", 0), ("u", "n", 1), ("u", "n", 2), ("u", "v", 2)]
        self.gathers(rule, board, 0, ("call", [3]), looks)


class GatherMend(RuleTest):
    def test_a_number_and_a_fault(self):
        board = Board({"t": {"a": [0, BAD, -SIXTY]}}, {"t": 3})
        rule = Mend("a", never)
        self.gathers(rule, board, 0, ("value", 0), self.in_t(("a", 0)))
        self.gathers(rule, board, 1, ("call", []), self.in_t(("a", 1)))
        self.gathers(rule, board, 2, ("value", -SIXTY), self.in_t(("a", 2)))


def one_of_each(function):
    return [
        Cells(["a"], function), Above(0, ["a"], function), Group("a", "b", function),
        Lookup("a", "t", "b", ["c"], function), Mend("a", function),
    ]


class Reckon(RuleTest):
    def test_what_the_function_tells(self):
        for rule in one_of_each(sum):
            self.assertEqual(rule.reckon([1, 2, 3]), 6)
            self.assertEqual(rule.reckon([]), 0)

    def test_settled(self):
        for told in no_values():
            for rule in one_of_each(lambda some: told):
                self.assertEqual(rule.reckon([1]), ODD)

    def test_values_stay_as_they_are(self):
        for told in [0, SIXTY, -SIXTY, BAD, LACKS]:
            for rule in one_of_each(lambda some: told):
                self.assertEqual(rule.reckon([1]), told)

    def test_called_once_with_a_copy(self):
        calls = []

        def spoil(some):
            calls.append(list(some))
            handed.append(some)
            some.append(99)
            return len(some)

        for rule in one_of_each(spoil):
            calls.clear()
            handed = []
            asked = [1, 2]
            self.assertEqual(rule.reckon(asked), 3)
            self.assertEqual((calls, asked), ([[1, 2]], [1, 2]))
            self.assertIs(type(handed[0]), list)

    def test_called_each_time(self):
        calls = []
        for rule in one_of_each(lambda some: calls.append(some) or 1):
            calls.clear()
            rule.reckon([1])
            rule.reckon([1])
            self.assertEqual(calls, [[1], [1]])


class Copies(RuleTest):
    def setUp(self):
        self.board = Board({"t": {"a": [1], "b": [2]}}, {"t": 1})

    def test_names_handed_in(self):
        names = ["a"]
        rules = [Cells(names, never), Above(5, names, never), Lookup("a", "t", "a", names, never)]
        names[0] = "b"
        names.append("A")
        for rule in rules:
            self.assertEqual(rule.leans("t"), [("t", "a")])
        self.gathers(rules[0], self.board, 0, ("call", [1]), self.in_t(("a", 0)))
        self.gathers(rules[1], self.board, 0, ("call", [5, 1]), self.in_t(("a", 0)))
        self.gathers(rules[2], self.board, 0, ("call", [1]), self.in_t(("a", 0), ("a", 0), ("a", 0)))
        self.assertEqual(names, ["b", "A"])

    def test_leans_told(self):
        for rule in one_of_each(never):
            before = rule.leans("t")
            rule.leans("t").clear()
            self.assertEqual(rule.leans("t"), before)
            self.assertIsNot(rule.leans("t"), rule.leans("t"))

    def test_lists_told_by_gather(self):
        board = Board({"t": {"a": [BAD, 1], "b": [2, 2], "c": [3, 3], "x": [4, 4]}}, {"t": 2})
        for rule in one_of_each(never):
            for place in [0, 1]:
                before = rule.gather(board.look, board.many, "t", "x", place)
                again = rule.gather(board.look, board.many, "t", "x", place)
                if again[0] == "call":
                    again[1].append(99)
                self.assertEqual(rule.gather(board.look, board.many, "t", "x", place), before)


if __name__ == "__main__":
    unittest.main()
