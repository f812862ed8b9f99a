"""Rules as texts: how numbers, reckonings, rules and values are written, and what they come to (points 26 to 28)."""

import unittest

from lazycols.errors import ColsError, NoText, NoValue
from lazycols.rules import Above, Cells, Group, Lookup, Mend
from lazycols.texts import read_rule, read_value, show_value
from lazycols.values import is_value
from things import (
    SIXTY, SIXTY_ONE, Board, RuleTest, no_names, no_texts, sheet_of, unwritten_numbers, written_numbers,
)

BAD = ("fault", "bad")
GREAT = ("fault", "great")
LACKS = ("fault", "lacks")
NOUGHT = ("fault", "nought")
S = str(SIXTY)
HALF = str(10 ** 30)
TOO_GREAT = "+ " + S + " 1"

PARTING = [
    "\n", "\t", "\r", "\r\n", "\x0b", "\x0c", "\x1c", "\x1f", "\x85", "\u00a0", "\u2003", "\u2028", "\u3000", ",", "",
]


def unnamed():
    """Words without blanks that are no names."""
    return [name for name in no_names() if isinstance(name, str) and " " not in name]


class TextTest(RuleTest):
    def comes_to(self, text, value):
        """A reckoning without columns."""
        told = read_rule("cells " + text).reckon([])
        self.assertIs(type(told), type(value))
        self.assertEqual(told, value)

    def comes_for(self, text, numbers, value):
        """A reckoning whose columns, in the order in which they first come, are these numbers."""
        self.assertEqual(read_rule("cells " + text).reckon(numbers), value)

    def no_rule(self, *texts):
        for text in texts:
            with self.subTest(text=text if isinstance(text, str) else None):
                with self.assertRaises(ColsError) as caught:
                    read_rule(text)
                self.assertIs(type(caught.exception), NoText)


class Numbers(TextTest):
    def test_written(self):
        for word, number in written_numbers().items():
            self.comes_to(word, number)
            self.comes_to("+ 0 " + word, number)
            self.assertEqual(read_rule("mend a " + word).reckon([]), number)
            self.assertEqual(read_value(word), number)
            rule = read_rule("above " + word + " up")
            self.assertEqual(rule.gather(None, None, "t", "x", 0), ("call", [number]))

    def test_not_written(self):
        for word in unwritten_numbers():
            self.no_rule(
                "cells " + word, "cells + " + word + " 1", "cells + 1 " + word, "above " + word + " 1",
                "above 1 " + word, "mend a " + word)

    def test_a_number_that_is_too_long_is_no_great_fault(self):
        self.no_rule("cells " + str(SIXTY_ONE), "cells " + str(-SIXTY_ONE), "cells < 1 " + str(SIXTY_ONE))


class Reckonings(TextTest):
    def test_signs(self):
        for text, number in {
            "+ 2 3": 5, "+ 2 -3": -1, "- 2 3": -1, "- 2 -3": 5, "- -2 3": -5, "* 2 3": 6, "* -2 3": -6, "* -2 -3": 6,
            "* 0 -3": 0, "< 2 3": 1, "< 3 2": 0, "< 2 2": 0, "< -3 -2": 1, "= 2 3": 0, "= 2 2": 1, "= -2 2": 0, "= 0 0": 1,
        }.items():
            self.comes_to(text, number)

    def test_quotients_are_rounded_down(self):
        for text, number in {
            "/ 7 2": 3, "/ -7 2": -4, "/ 7 -2": -4, "/ -7 -2": 3, "/ 6 2": 3, "/ -6 2": -3, "/ 6 -2": -3, "/ -6 -2": 3,
            "/ 1 5": 0, "/ -1 5": -1, "/ 1 -5": -1, "/ -1 -5": 0, "/ 0 5": 0, "/ 0 -5": 0, "/ 7 1": 7, "/ 7 -1": -7,
        }.items():
            self.comes_to(text, number)

    def test_rests_go_with_them(self):
        for text, number in {
            ": 7 2": 1, ": -7 2": 1, ": 7 -2": -1, ": -7 -2": -1, ": 6 2": 0, ": -6 2": 0, ": 6 -2": 0, ": -6 -2": 0,
            ": 1 5": 1, ": -1 5": 4, ": 1 -5": -4, ": -1 -5": -1, ": 0 5": 0, ": 0 -5": 0, ": 7 1": 0, ": 7 -1": 0,
        }.items():
            self.comes_to(text, number)

    def test_long_ones_are_exact(self):
        for one in [SIXTY, -SIXTY, 10 ** 59 + 1]:
            for other in [7, -7, 10 ** 30 + 1, -(10 ** 30) - 1, SIXTY - 1, 1 - SIXTY]:
                quotient = read_rule(f"cells / {one} {other}").reckon([])
                rest = read_rule(f"cells : {one} {other}").reckon([])
                self.assertEqual(quotient * other + rest, one)
                self.assertTrue(0 <= rest < other or other < rest <= 0)
        self.comes_to(f"< {SIXTY - 1} {SIXTY}", 1)
        self.comes_to(f"= {SIXTY - 1} {SIXTY}", 0)

    def test_by_nought(self):
        for text in ["/ 1 0", ": 1 0", "/ 0 0", ": 0 0", "/ -1 0", ": -1 0", "/ 1 - 2 2", ": 1 * 0 5", f"/ {S} 0"]:
            self.comes_to(text, NOUGHT)
        self.comes_to("/ 0 1", 0)

    def test_a_fault_goes_on(self):
        for sign in "+-*/:<=":
            self.comes_to(sign + " / 1 0 3", NOUGHT)
            self.comes_to(sign + " 3 / 1 0", NOUGHT)
            self.comes_to(sign + " + 1 * 2 / 1 0 3", NOUGHT)
        self.comes_to("* 0 / 1 0", NOUGHT)

    def test_just_sixty_figures(self):
        for text, number in {
            f"+ {S} 0": SIXTY, f"+ {SIXTY - 1} 1": SIXTY, f"- -{S} 0": -SIXTY, f"- {1 - SIXTY} 1": -SIXTY,
            f"+ {S} -1": SIXTY - 1, f"- {S} {S}": 0, f"* {S} 1": SIXTY, f"* {S} -1": -SIXTY,
            f"* {HALF} {10 ** 29}": 10 ** 59, f"* {3 * 10 ** 29} {3 * 10 ** 30}": 9 * 10 ** 59,
            f"/ {S} 1": SIXTY, f"/ {S} -1": -SIXTY, f": {S} {S}": 0,
        }.items():
            self.comes_to(text, number)

    def test_sixty_one_figures(self):
        for text in [
            TOO_GREAT, f"+ 1 {S}", f"- -{S} 1", f"- {S} -1", f"+ {S} {S}", f"* {HALF} {HALF}", f"* {HALF} -{HALF}",
            f"* {S} 2", f"* {S} {S}",
        ]:
            self.comes_to(text, GREAT)

    def test_great_within_though_it_would_come_back_below(self):
        for text in [
            f"- {TOO_GREAT} 1", f"+ -1 {TOO_GREAT}", f"/ * {HALF} {HALF} {HALF}", f": {TOO_GREAT} 2", f"* 0 {TOO_GREAT}",
            f"< 0 {TOO_GREAT}", f"= {TOO_GREAT} {TOO_GREAT}", f"- * {S} 2 * {S} 2",
        ]:
            self.comes_to(text, GREAT)

    def test_of_two_faults_the_first(self):
        for text, value in {
            f"+ / 1 0 {TOO_GREAT}": NOUGHT, f"+ {TOO_GREAT} / 1 0": GREAT, f"+ {TOO_GREAT} : 1 0": GREAT,
            f"< : 1 0 * {S} {S}": NOUGHT, f"= * {S} {S} : 1 0": GREAT,
            f"+ + 1 / 1 0 + {TOO_GREAT} 1": NOUGHT, f"+ * 2 {TOO_GREAT} / 1 0": GREAT,
            f"* + + 1 2 {TOO_GREAT} / 1 0": GREAT, f"* / 5 - 1 1 {TOO_GREAT}": NOUGHT,
        }.items():
            self.comes_to(text, value)

    def test_both_ahead_of_the_signs_own(self):
        for text, value in {
            f"/ {TOO_GREAT} 0": GREAT, f": {TOO_GREAT} 0": GREAT, f"+ {S} / {S} 0": NOUGHT, f"* {S} : {S} 0": NOUGHT,
            f"/ 1 {TOO_GREAT}": GREAT,
        }.items():
            self.comes_to(text, value)

    def test_nested_to_the_left_and_to_the_right(self):
        self.comes_to("- - - 10 1 2 3", 4)
        self.comes_to("- 10 - 1 - 2 3", 8)
        self.comes_to("- * 2 3 / 9 2", 2)
        self.comes_for("- * a b / c a", [2, 5, 9], 6)

    def test_at_most_24_words(self):
        for turns in [0, 1, 5, 11]:
            self.comes_to("+ " * turns + " ".join(["1"] * (turns + 1)), turns + 1)
            self.comes_to("+ 1 " * turns + "1", turns + 1)
        for turns in [12, 13, 50]:
            self.no_rule("cells " + "+ " * turns + " ".join(["1"] * (turns + 1)), "cells " + "+ 1 " * turns + "1")
            self.no_rule("above 0 " + "+ " * turns + " ".join(["1"] * (turns + 1)), "above 0 " + "+ 1 " * turns + "1")
        self.assertEqual(read_rule("above 0 " + "+ 1 " * 11 + "up").reckon([5]), 16)
        # Of 24 words none is a reckoning: there is always one more that is no sign than there are signs.
        for turns in range(24):
            self.no_rule("cells " + "+ " * turns + " ".join(["1"] * (24 - turns)))

    def test_ends_too_soon_or_goes_on(self):
        for text in [
            "", "+", "+ 1", "+ + 1 2", "+ 1 + 2", "* a", "-", "1 2", "a b", "+ 1 2 3", "1 +", "1 + 2", "+ 1 2 +", "a 1",
        ]:
            self.no_rule("cells " + text, "above 1 " + text)
        self.no_rule("cells", "above", "above 1")

    def test_words_that_are_none(self):
        for word in [
            "++", "+-", "<=", "==", "=<", "*/", "+-*/:<=", ">", "%", "//", "**", "!", "!bad", "(", ")", ".", "t.a",
            "+1", "a+1", "\\", "'a'", "&", "\u00d7", "\u00f7", "\uff0b",
        ]:
            self.no_rule("cells " + word, "cells " + word + " 1 2", "cells + 1 " + word)


class Names(TextTest):
    def leans_on(self, text, *names):
        self.assertEqual(read_rule(text).leans("t"), [("t", name) for name in names])

    def test_in_the_order_in_which_they_first_come(self):
        self.leans_on("cells + + c a + c b", "c", "a", "b")
        self.comes_for("- - c a - c b", [10, 3, 1], -2)
        board = Board({"t": {"a": [3], "b": [1], "c": [10]}}, {"t": 1})
        told = ("call", [10, 3, 1])
        self.gathers(read_rule("cells - - c a - c b"), board, 0, told, self.in_t(("c", 0), ("a", 0), ("b", 0)))

    def test_one_column_several_times(self):
        self.leans_on("cells + a + a * a a", "a")
        self.comes_for("+ a + a * a a", [3], 15)
        board = Board({"t": {"a": [3]}}, {"t": 1})
        self.gathers(read_rule("cells + a + a * a a"), board, 0, ("call", [3]), self.in_t(("a", 0)))

    def test_no_columns(self):
        self.leans_on("cells 5")
        self.gathers(read_rule("cells + 5 1"), Board({}, {}), 0, ("call", []), [])
        self.comes_to("+ 5 1", 6)

    def test_six_and_seven_columns(self):
        six = "+ a + b + c + d + e f"
        self.leans_on("cells " + six, *"abcdef")
        self.comes_for(six, [1, 2, 4, 8, 16, 32], 63)
        self.leans_on("cells + a " + six, *"abcdef")
        self.no_rule("cells + g " + six, "cells + + " + six + " a g", "cells + up " + six)
        self.leans_on("above 0 " + six, *"abcdef")
        self.leans_on("above 0 + up " + six, *"abcdef")
        self.assertEqual(read_rule("above 0 + up " + six).reckon([64, 1, 2, 4, 8, 16, 32]), 127)
        self.no_rule("above 0 + g " + six, "above 0 + up + g " + six)

    def test_up_in_above_is_the_row_above(self):
        self.leans_on("above 5 + up a", "a")
        self.leans_on("above 5 + a * up up", "a")
        self.assertEqual(read_rule("above 5 - a up").reckon([7, 2]), -5)
        self.assertEqual(read_rule("above 5 - up * up a").reckon([7, 2]), -7)
        self.assertEqual(read_rule("above 5 up").reckon([7]), 7)

    def test_up_in_cells_is_a_column(self):
        self.leans_on("cells + up a", "up", "a")
        self.comes_for("- up a", [7, 2], 5)
        self.leans_on("group up up sum", "up")
        self.leans_on("mend up 1", "up")

    def test_words_of_rules_may_be_columns(self):
        self.leans_on("cells + cells + above + sum most", "cells", "above", "sum", "most")
        self.leans_on("group group sum sum", "group", "sum")

    def test_names_have_one_to_eight_small_letters(self):
        for name in ["a", "z", "abcdefgh", "zzzzzzzz", "fault", "up"]:
            self.leans_on("cells " + name, name)
            self.leans_on("group " + name + " b sum", name, "b")
            self.leans_on("mend " + name + " 1", name)
        for name in unnamed():
            self.no_rule(
                "group " + name + " b sum", "group a " + name + " sum", "lookup " + name + " t b c",
                "lookup a " + name + " b c", "lookup a t " + name + " c", "lookup a t b " + name, "mend " + name + " 1")
            if name not in ("1", "-"):
                self.no_rule("cells " + name, "cells + a " + name, "above 1 " + name, "above 1 + up " + name)


class Kinds(TextTest):
    def test_each_is_its_own_kind(self):
        for text, kind in {
            "cells a": Cells, "above 1 a": Above, "group a b sum": Group, "lookup a t b c": Lookup, "mend a 1": Mend,
        }.items():
            self.assertIs(type(read_rule(text)), kind)

    def test_cells(self):
        rule = read_rule("cells - price * 2 many")
        board = Board({"t": {"price": [9, BAD], "many": [3, 1]}}, {"t": 2})
        self.assertEqual(rule.leans("t"), [("t", "price"), ("t", "many")])
        self.gathers(rule, board, 0, ("call", [9, 3]), self.in_t(("price", 0), ("many", 0)))
        self.gathers(rule, board, 1, ("value", BAD), self.in_t(("price", 1)))
        self.assertEqual(rule.reckon([9, 3]), 3)

    def test_above(self):
        rule = read_rule("above -5 + * 2 up a")
        board = Board({"t": {"a": [3, 4], "x": [7, 8]}}, {"t": 2})
        self.assertEqual(rule.leans("t"), [("t", "a")])
        self.gathers(rule, board, 0, ("call", [-5, 3]), self.in_t(("a", 0)))
        self.gathers(rule, board, 1, ("call", [7, 4]), self.in_t(("x", 0), ("a", 1)))
        self.assertEqual(rule.reckon([7, 4]), 18)

    def test_above_without_up_looks_above(self):
        rule = read_rule("above 5 a")
        board = Board({"t": {"a": [3, 4], "x": [7, 8]}}, {"t": 2})
        self.gathers(rule, board, 1, ("call", [7, 4]), self.in_t(("x", 0), ("a", 1)))
        self.assertEqual(rule.reckon([7, 4]), 4)

    def test_group(self):
        board = Board({"t": {"k": [1, 2, 1], "n": [5, 6, -7]}}, {"t": 3})
        looks = self.in_t(("k", 0), ("k", 0), ("n", 0), ("k", 1), ("k", 2), ("n", 2))
        for word, value in {"sum": -2, "most": 5, "least": -7, "many": 2}.items():
            rule = read_rule("group k n " + word)
            self.assertEqual(rule.leans("t"), [("t", "k"), ("t", "n")])
            self.gathers(rule, board, 0, ("call", [5, -7]), looks)
            self.assertEqual(rule.reckon([5, -7]), value)

    def test_what_words_tell_of_groups(self):
        for word, told in {
            "sum": [3, 6, 0, SIXTY, -SIXTY, SIXTY], "most": [3, 3, 5, SIXTY, 0, SIXTY],
            "least": [3, 1, -5, 0, -SIXTY, -1], "many": [1, 3, 2, 2, 2, 3],
        }.items():
            groups = [[3], [1, 2, 3], [5, -5], [SIXTY, 0], [-SIXTY, 0], [SIXTY, 1, -1]]
            self.assertEqual([read_rule("group k n " + word).reckon(some) for some in groups], told)

    def test_a_sum_that_is_great(self):
        for some in [[SIXTY, 1], [-SIXTY, -1], [SIXTY] * 30, [10 ** 59] * 10]:
            self.assertEqual(read_rule("group k n sum").reckon(some), GREAT)
            self.assertEqual(read_rule("group k n most").reckon(some), max(some))
            self.assertEqual(read_rule("group k n many").reckon(some), len(some))
        self.assertEqual(read_rule("group k n sum").reckon([10 ** 59] * 9), 9 * 10 ** 59)

    def test_words_that_tell_nothing_of_groups(self):
        for word in ["", "max", "min", "len", "Sum", "sums", "SUM", "su", "sum\n", "summost", "0", "1", "a", "+", "all"]:
            self.no_rule("group a b " + word)

    def test_lookup(self):
        rule = read_rule("lookup k other theirs v")
        board = Board({"t": {"k": [5, 9]}, "other": {"theirs": [4, 5, 5], "v": [1, 2, 3]}}, {"t": 2, "other": 3})
        self.assertEqual(rule.leans("t"), [("t", "k"), ("other", "theirs"), ("other", "v")])
        there = [("other", "theirs", 0), ("other", "theirs", 1)]
        self.gathers(rule, board, 0, ("call", [2]), self.in_t(("k", 0)) + there + [("other", "v", 1)])
        self.gathers(rule, board, 1, ("value", LACKS), self.in_t(("k", 1)) + there + [("other", "theirs", 2)])
        for number in [0, 2, -2, SIXTY, -SIXTY]:
            self.assertEqual(rule.reckon([number]), number)

    def test_mend(self):
        rule = read_rule("mend a -3")
        board = Board({"t": {"a": [5, BAD]}}, {"t": 2})
        self.assertEqual(rule.leans("t"), [("t", "a")])
        self.gathers(rule, board, 0, ("value", 5), self.in_t(("a", 0)))
        self.gathers(rule, board, 1, ("call", []), self.in_t(("a", 1)))
        self.assertEqual(rule.reckon([]), -3)

    def test_in_a_sheet(self):
        sheet = sheet_of({"t": (3, {
            "a": [4, BAD, -2], "k": [1, 2, 1], "fit": read_rule("mend a 0"), "half": read_rule("cells / fit 2"),
            "by": read_rule("cells / 6 fit"), "run": read_rule("above 10 + up fit"), "all": read_rule("group k fit sum"),
            "near": read_rule("lookup k t k all"),
        })})
        told = {column: sheet.stretch("t", column, 0, 3) for column in sheet.columns("t")}
        self.assertEqual(told, {
            "a": [4, BAD, -2], "k": [1, 2, 1], "fit": [4, 0, -2], "half": [2, 0, -1], "by": [1, NOUGHT, -3],
            "run": [14, 14, 12], "all": [2, 0, 2], "near": [2, 0, 2],
        })

    def test_rules_do_not_share_anything(self):
        one, other = read_rule("cells + a b"), read_rule("cells + a b")
        one.leans("t").clear()
        self.assertEqual(one.reckon([1, 2]), 3)
        self.assertEqual(other.leans("t"), [("t", "a"), ("t", "b")])
        some = [1, 2]
        self.assertEqual([one.reckon(some), one.reckon(some), other.reckon([3, 4]), one.reckon(some)], [3, 3, 7, 3])
        self.assertEqual(some, [1, 2])


class NoRules(TextTest):
    right = [
        "cells 1", "cells a", "cells + a 1", "above 1 up", "above -1 + up a", "group a b sum", "lookup a t b c", "mend a 1",
    ]

    def test_no_texts(self):
        self.no_rule(*no_texts())

    def test_right_ones_are_read(self):
        for text in self.right:
            read_rule(text)

    def test_blanks(self):
        self.no_rule("", " ", "  ")
        for text in self.right:
            self.no_rule(" " + text, text + " ", "  " + text, text + "  ")
            for at in range(len(text)):
                if text[at] == " ":
                    self.no_rule(text[:at] + " " + text[at:])

    def test_other_signs_part_nothing(self):
        for text in self.right:
            for sign in PARTING:
                self.no_rule(text.replace(" ", sign), text.replace(" ", sign, 1), text.replace(" ", " " + (sign or " ")))
                if sign:
                    self.no_rule(sign + text, text + sign)

    def test_first_words(self):
        for word in [
            "", "cell", "cellss", "Cells", "CELLS", "aboves", "groups", "look", "mends", "sum", "rule", "0", "+", "\u0441ells",
        ]:
            self.no_rule(word)
            self.no_rule(*[word + rest for rest in [" 1", " a", " 1 up", " a b sum", " a t b c", " a 1"]])

    def test_fewer_or_more_words(self):
        for text in self.right:
            words = text.split(" ")
            for many in range(len(words)):
                self.no_rule(" ".join(words[:many]))
            self.no_rule(text + " 1", text + " a", text + " sum")

    def test_kinds_mixed_up(self):
        self.no_rule(
            "above up 1", "above a 1", "above !bad up", "mend 1 1", "mend a a", "mend a !bad", "mend a", "mend 1",
            "mend a + 1 1", "group a 1 sum", "group 1 a sum", "group a b c", "group a sum", "group + a b sum",
            "lookup a t b 1", "lookup a t b c d", "lookup a t b", "lookup a t", "lookup 1 t b c", "cells !bad",
            "cells t.a", "above 1 + up !bad")

    def test_signs_that_are_not_asciis_own(self):
        self.no_rule(
            "cells \uff41", "cells \u0430", "cells \u00e9", "cells a\u0301", "cells \uff11", "mend \u0430 1",
            "cells \u2212 1 2")


class Values(unittest.TestCase):
    def test_shown(self):
        for value, text in {
            0: "0", 1: "1", -1: "-1", 10: "10", SIXTY: "9" * 60, -SIXTY: "-" + "9" * 60, BAD: "!bad", GREAT: "!great",
            ("fault", "a"): "!a", ("fault", "abcdefgh"): "!abcdefgh",
        }.items():
            told = show_value(value)
            self.assertIs(type(told), str)
            self.assertEqual(told, text)

    def test_read_as_shown(self):
        for value in list(written_numbers().values()) + [BAD, LACKS, ("fault", "z"), ("fault", "abcdefgh")]:
            told = read_value(show_value(value))
            self.assertTrue(is_value(told))
            self.assertIs(type(told), type(value))
            self.assertEqual(told, value)

    def test_no_value(self):
        faults = ["!" + name for name in unnamed()] + ["!", "!!", "!!bad", "! bad", "!bad ", " !bad", "!bad !bad", "!Bad"]
        wrong = faults + ["bad", "a", "fault", "-!bad", "!-1", "!bad\n", "\n!bad", "\uff01bad", "(\"fault\", \"bad\")"]
        for text in unwritten_numbers() + wrong + [" 1", "1 ", "1 1", " ", "- 1"] + no_texts():
            with self.subTest(text=text if isinstance(text, str) else None):
                with self.assertRaises(ColsError) as caught:
                    read_value(text)
                self.assertIs(type(caught.exception), NoValue)


if __name__ == "__main__":
    unittest.main()
