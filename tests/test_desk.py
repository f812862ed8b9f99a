"""The desk: each row with its answer, and what is refused first (point 28)."""

import unittest

from lazycols.desk import Desk
from lazycols.errors import (
    ColsError, NoBack, NoColumn, NoName, NoPlace, NoRow, NoSize, NoTable, NoText, NoValue, Nobody, Ring, Ruled, Several,
    TooMuch,
)
from things import SIXTY, no_texts, stands, unwritten_numbers, written_numbers

S = str(SIXTY)

RIGHT = [
    "table v 2", "give t c 1 2 3", "rule t c cells 1", "put t a 0 1", "in t 0 a 1 b 2", "out t 0", "back", "cell t a 0",
    "column t a", "total t a", "came t a 0", "some t a b", "order t a b", "beside t a u n w", "through t a u n w 0 1",
]


class DeskTest(unittest.TestCase):
    def setUp(self):
        """t has three rows, u four, e none."""
        self.desk = Desk()
        self.says(
            "table t 3", "give t a 3 1 !bad", "give t b -5 0 7", "rule t s cells + a b",
            "table u 4", "give u n 3 1 1 9", "give u w 10 20 30 40", "rule u r cells * w 2", "table e 0", "give e a",
        )

    def says(self, *rows):
        for row in rows:
            self.answers(row, "ok")

    def answers(self, row, text):
        told = self.desk.say(row)
        self.assertIs(type(told), str)
        self.assertEqual(told, text, row)

    def stand(self):
        return stands(self.desk.sheet), len(self.desk.sheet.changes)

    def refuses(self, error, *rows):
        for row in rows:
            with self.subTest(row=row if isinstance(row, str) else None):
                before = self.stand()
                with self.assertRaises(ColsError) as caught:
                    self.desk.say(row)
                self.assertIs(type(caught.exception), error)
                self.assertEqual(self.stand(), before)


class Changes(DeskTest):
    def test_a_desk_begins_with_no_tables(self):
        self.desk = Desk()
        self.refuses(NoBack, "back")
        self.refuses(NoTable, "column t a")
        self.says("table t 0")

    def test_desks_do_not_share_anything(self):
        other = Desk()
        self.assertEqual(other.say("table t 1"), "ok")
        self.assertEqual(other.say("give t a 99"), "ok")
        self.answers("column t a", "3 1 !bad")

    def test_table(self):
        self.says("table v 30", "give v a " + " ".join(["7"] * 30))
        self.answers("total v a", "210")

    def test_give(self):
        self.says("give t c 0 -1 !odd")
        self.answers("column t c", "0 -1 !odd")
        self.says("give t c " + S + " -" + S + " !abcdefgh")
        self.answers("column t c", S + " -" + S + " !abcdefgh")

    def test_give_in_place_of_a_rule_and_back(self):
        self.answers("column t s", "-2 1 !bad")
        self.says("give t s 7 8 9")
        self.answers("column t s", "7 8 9")
        self.says("back")
        self.answers("column t s", "-2 1 !bad")

    def test_rules_of_all_kinds(self):
        for text, told in {
            "cells - b a": "-8 -1 !bad", "above 100 + up b": "95 95 102", "mend a 0": "3 1 0",
            "group b b many": "1 1 1", "lookup a u n w": "10 20 !bad", "cells 5": "5 5 5", "above 7 up": "7 7 7",
            "cells / 10 b": "-2 !nought 1", "cells : 10 b": "0 !nought 3", "cells + b " + S: str(SIXTY - 5) + " " + S + " !great",
            "lookup b u n w": "!lacks !lacks !lacks",
        }.items():
            self.says("rule t x " + text)
            self.answers("column t x", told)

    def test_put(self):
        self.says("put t a 2 4", "put t b 0 !ill")
        self.answers("column t a", "3 1 4")
        self.answers("column t s", "!ill 1 11")

    def test_in_and_out(self):
        self.says("in t 0 a 8 b 9")
        self.answers("column t a", "8 3 1 !bad")
        self.says("in t 4 b !no a 2")
        self.answers("column t b", "9 -5 0 7 !no")
        self.answers("column t s", "17 -2 1 !bad !no")
        self.says("out t 1", "out t 3")
        self.answers("column t a", "8 1 !bad")

    def test_in_without_columns(self):
        self.says("table v 0", "in v 0", "in v 1", "rule v x above 1 * 2 up", "in v 0")
        self.answers("column v x", "2 4 8")

    def test_in_a_table_whose_columns_are_all_ruled(self):
        self.says("table v 1", "rule v x cells 4", "in v 1")
        self.answers("column v x", "4 4")
        self.refuses(NoValue, "in v 1 x 4")

    def test_back_down_to_no_back(self):
        told = []
        for turn in range(10):
            told.append(self.stand())
            self.says("back")
        self.assertEqual(told[-1][1], 1)
        self.assertEqual(self.stand(), ([], 0))
        self.refuses(NoBack, "back", "back")
        self.refuses(NoTable, "column t a")
        self.says("table u 1", "give u n 2", "back")
        self.refuses(NoColumn, "column u n")
        self.says("back")
        self.refuses(NoBack, "back")

    def test_what_was_refused_is_not_taken_back(self):
        self.says("put t a 0 5")
        self.refuses(NoPlace, "put t a 3 5", "put t a x 5", "out t 3")
        self.refuses(NoText, "rule t x y")
        self.refuses(NoColumn, "rule t x cells y")
        self.says("back")
        self.answers("column t a", "3 1 !bad")


class Looks(DeskTest):
    def test_cell(self):
        for row, told in {"cell t a 0": "3", "cell t b 0": "-5", "cell t a 2": "!bad", "cell t s 1": "1"}.items():
            self.answers(row, told)

    def test_column(self):
        self.answers("column t b", "-5 0 7")
        self.answers("column u r", "20 40 60 80")

    def test_a_column_with_no_rows(self):
        self.answers("column e a", "")
        self.answers("total e a", "0")
        self.answers("some e a a", "")
        self.answers("order e a a", "")
        self.answers("beside e a u n w", "")
        self.answers("beside t b e a a", "!lacks !lacks !lacks")

    def test_a_column_with_one_row(self):
        self.says("table v 1", "give v a !bad")
        self.answers("column v a", "!bad")

    def test_total(self):
        self.answers("total t b", "2")
        self.answers("total t a", "!bad")
        self.answers("total u r", "200")

    def test_a_total_of_more_than_sixty_figures(self):
        for many in [2, 11]:
            self.says(f"table v {many}", "give v a" + (" " + S) * many)
            self.answers("total v a", str(SIXTY * many))
            self.says("give v a" + (" -" + S) * many)
            self.answers("total v a", str(-SIXTY * many))
            self.says("back", "back", "back")

    def test_came(self):
        self.answers("came t s 0", "t.a.0 t.b.0")
        self.answers("came t a 1", "t.a.1")
        self.answers("came t s 2", "t.a.2")
        self.says("rule t x lookup a u n r")
        self.answers("came t x 1", "t.a.1 u.n.0 u.n.1 u.w.1")

    def test_came_rises_by_numbers(self):
        self.says("table v 12", "give v k" + " 1" * 12, "rule v x group k k sum")
        self.answers("came v x 5", " ".join(f"v.k.{place}" for place in range(12)))

    def test_came_of_none(self):
        self.says("rule t x cells 5", "rule t y above 1 up", "rule t z cells + x y")
        for row in ["came t x 0", "came t y 2", "came t z 1"]:
            self.answers(row, "none")

    def test_some(self):
        self.answers("some t b a", "3 !bad")
        self.answers("some t a b", "-5 0")
        self.answers("some t s s", "-2 1")

    def test_order(self):
        self.answers("order t a b", "0 -5 7")
        self.answers("order t b a", "3 1 !bad")
        self.answers("order u w n", "3 1 1 9")
        self.says("give u x 2 !b 1 !a")
        self.answers("order u x w", "30 10 20 40")
        self.answers("order u x x", "1 2 !b !a")

    def test_beside(self):
        self.answers("beside t a u n w", "10 20 !bad")
        self.answers("beside t a u n r", "20 40 !bad")
        self.answers("beside t b u n w", "!lacks !lacks !lacks")
        self.answers("beside u n t a b", "-5 0 0 !lacks")
        self.answers("beside u n u n w", "10 20 20 40")

    def test_looks_are_no_changes(self):
        before = self.stand()
        for row in ["cell t s 0", "column t s", "total t s", "came t s 0", "some t s s", "order t s s", "beside t s u r r"]:
            self.desk.say(row)
        self.assertEqual(self.stand(), before)


class Through(DeskTest):
    def test_one_row(self):
        self.says("through t a u n w 0 77")
        self.answers("column u w", "77 20 30 40")
        self.says("back")
        self.answers("column u w", "10 20 30 40")
        self.says("through t a u n n 0 !bad")
        self.answers("column u n", "!bad 1 1 9")

    def test_no_row(self):
        self.refuses(Nobody, "through t b u n w 0 77", "through t a u n w 2 77", "through t b u n r 1 77")

    def test_several_rows(self):
        self.refuses(Several, "through t a u n w 1 77", "through t a u n r 1 77", "through u n u n w 1 77")

    def test_a_ruled_column(self):
        self.refuses(Ruled, "through t a u n r 0 77")

    def test_into_its_own_table(self):
        self.says("through t b t b a 1 8")
        self.answers("column t a", "3 8 !bad")

    def test_by_a_ruled_column(self):
        self.says("give u x -2 5 6 7", "through t s u x w 0 8")
        self.answers("column u w", "8 20 30 40")


class NoRows(DeskTest):
    def test_no_texts(self):
        self.refuses(NoRow, *no_texts())
        self.refuses(NoRow, ["back"], ("back",), b"back", None)

    def test_right_ones_are_carried_out(self):
        for row in RIGHT:
            self.setUp()
            self.desk.say(row)

    def test_first_words(self):
        self.refuses(NoRow, "", " ", "  ", "0", "ok", "none", "!bad", "!", "cells", "rules", "say back", "put_in t 0")
        for row in RIGHT:
            first, blank, rest = row.partition(" ")
            wrong = [first[:-1], first + "s", first.upper(), first.title(), first + "\n", "\n" + first, "", first + first]
            self.refuses(NoRow, *[word + blank + rest for word in wrong])

    def test_fewer_or_more_words(self):
        for row in RIGHT:
            words = row.split(" ")
            fewer = [" ".join(words[:many]) for many in range(1, len(words))]
            if words[0] == "give":
                fewer = fewer[:2]
            if words[0] == "rule":
                fewer = fewer[:3]
            if words[0] == "in":
                fewer = [text for text in fewer if len(text.split(" ")) not in (3, 5)]
            self.refuses(NoRow, *fewer)
            if words[0] not in ("give", "rule", "in"):
                self.refuses(NoRow, row + " 1", row + " a", row + " 1 2")
        self.refuses(NoRow, "in t 0 a", "in t 0 a 1 b", "in t 0 a 1 b 2 c", "in", "in t", "rule", "rule t", "rule t c")

    def test_number_of_words_comes_ahead_of_words(self):
        self.refuses(NoRow, "put none none x", "table A", "in A x a", "cell A A x x", "back x", "give A", "through A A A A A x")

    def test_blanks(self):
        for row in RIGHT:
            self.refuses(NoRow, " " + row, "  " + row)
            words = row.split(" ")
            if words[0] not in ("give", "rule", "in"):
                self.refuses(NoRow, row + " ", row + "  ")
                for at in range(1, len(words)):
                    self.refuses(NoRow, " ".join(words[:at] + [""] + words[at:]))

    def test_other_signs_part_nothing(self):
        for row in RIGHT:
            for sign in ["\n", "\t", "\r", "\x0b", "\x0c", "\x1c", "\x85", "\u00a0", "\u2003", "\u2028", "", ","]:
                if " " in row:
                    self.refuses(NoRow, row.replace(" ", sign), row.replace(" ", sign, 1))
        self.refuses(NoRow, "back\n", "back\t", "\tback", "back\r\n", "\ufeffback")
        self.refuses(NoPlace, "cell t a 0\n", "cell t a \t0", "out t 0\r", "table v 1\n")
        self.refuses(NoValue, "give t c 1\n2 3 4", "put t a 0 1\n", "in t 0 a 1\n b 2")
        self.refuses(NoText, "rule t c cells 1\n", "rule t c cells\t1")
        self.refuses(NoColumn, "column t a\n", "total t \ta", "some t a b\n")
        self.refuses(NoTable, "column t\n a")


class WordsWithoutSigns(DeskTest):
    def test_where_two_blanks_stand_or_one_at_an_end(self):
        self.refuses(NoValue, "give t c ", "give t c 1 2 ", "give t c  1 2", "give t c 1  2", "put t a 0 ", "in t 0 a  b 2")
        self.refuses(NoPlace, "table v ", "put t a  1", "in t ", "in t  a 1 b 2", "out t ", "cell t a ", "came t a ")
        self.refuses(NoPlace, "through t a u n w  1")
        self.refuses(NoText, "rule t c ", "rule t c  ", "rule t c  cells 1", "rule t c cells 1 ", "rule t c cells  1")
        self.refuses(NoName, "table  1", "give t  1 2 3", "rule t  cells 1")
        self.refuses(NoTable, "give  c 1 2 3", "rule  c cells 1", "put  a 0 1", "in  0 a 1 b 2", "out  0", "cell  a 0")
        self.refuses(NoTable, "column  a", "total  a", "came  a 0", "some  a b", "order  a b", "beside  a u n w")
        self.refuses(NoTable, "beside t a  n w", "through t a  n w 0 1", "through  a u n w 0 1")
        self.refuses(NoColumn, "put t  0 1", "cell t  0", "column t ", "total t ", "came t  0", "some t  b", "some t a ")
        self.refuses(NoColumn, "order t  b", "order t a ", "beside t  u n w", "beside t a u  w", "beside t a u n ")
        self.refuses(NoColumn, "through t  u n w 0 1", "through t a u  w 0 1", "through t a u n  0 1")
        self.refuses(NoValue, "in t 0  1 b 2", "in t 0 a 1  2", "in t 0  ")

    def test_more_or_fewer_values_are_no_row(self):
        self.refuses(NoRow, "in t 0 a 1 b 2 ", "in t 0 ")


class Words(DeskTest):
    def test_numbers(self):
        for word in unwritten_numbers():
            self.refuses(NoPlace, *[row.replace("#", word) for row in [
                "table v #", "put t a # 1", "in t # a 1 b 2", "out t #", "cell t a #", "came t a #", "through t a u n w # 1",
            ]])
            self.refuses(NoValue, "give t c 1 2 " + word, "put t a 0 " + word, "in t 0 a 1 b " + word)
            self.refuses(NoValue, "through t a u n w 0 " + word)

    def test_faults_are_no_places(self):
        self.refuses(NoPlace, "table v !bad", "put t a !bad 1", "out t !bad", "cell t a !bad", "cell t a a")

    def test_values(self):
        for word, number in written_numbers().items():
            self.says("put t a 0 " + word)
            self.answers("cell t a 0", str(number))
        for word in ["!a", "!bad", "!abcdefgh"]:
            self.says("put t a 0 " + word)
            self.answers("cell t a 0", word)
        wrong = ["!", "!abcdefghi", "!Bad", "!b1", "!!bad", "bad", "a", "!\u00e9", "!bad\n", "fault", "!a!b"]
        self.refuses(NoValue, *["put t a 0 " + word for word in wrong], *["give t c 1 2 " + word for word in wrong])

    def test_texts(self):
        self.refuses(
            NoText, "rule t c cells", "rule t c x", "rule t c cells + 1", "rule t c cells 1 2", "rule t c above x 1",
            "rule t c group a b x", "rule t c mend a", "rule t c lookup a u n", "rule t c cells " + "+ 1 " * 12 + "1")
        self.says("rule t c cells " + "+ 1 " * 11 + "1")

    def test_word_by_word_from_the_left(self):
        self.refuses(NoPlace, "put t a x y", "put t a -0 !", "in t x a y b z", "through t a u n w x y", "in t x a 1 a 2")
        self.refuses(NoValue, "put t a 9 y", "in t 99 a y b z", "through t a u n w 99 y")

    def test_words_come_ahead_of_the_sheet(self):
        self.refuses(NoPlace, "table t x", "table A x", "put none a x 1", "out none x", "cell none none x", "in none x a 1")
        self.refuses(NoPlace, "came none none x", "through none a none n w x 1", "through t none u n none x 1")
        self.refuses(NoValue, "give none c x", "give t A x", "give t c x", "put none a 0 x", "put t s 0 x", "put t a 99 x")
        self.refuses(NoValue, "in none 0 a x", "in t 99 a x", "through none a u n w 0 x", "through t b u n w 0 x")
        self.refuses(NoText, "rule none c x", "rule t A x", "rule t c cells 1 2")


class OfTheSheet(DeskTest):
    def test_no_table(self):
        for table in ["none", "T", "t1", "abcdefghi", "t.a", "\u0442"]:
            self.refuses(NoTable, *[row.replace(" t ", f" {table} ") for row in RIGHT if " t " in row])
            self.refuses(NoTable, f"beside t a {table} n w", f"through t a {table} n w 0 1")

    def test_table(self):
        self.refuses(NoName, "table t 1", "table T 1", "table abcdefghi 1", "table t1 1", "table T 31", "table t -1")
        self.refuses(NoSize, "table v -1", "table v 31", "table v " + S)
        self.says("table v 1")
        self.refuses(TooMuch, "table w 1")
        self.refuses(NoSize, "table w 31")

    def test_give(self):
        self.refuses(NoName, "give t A 1 2 3", "give t a1 1", "give t abcdefghi 1 2 3")
        self.refuses(NoValue, "give t c", "give t c 1 2", "give t c 1 2 3 4", "give t a", "give e a 1", "give t c" + " 1" * 40)
        self.says("give t c 1 2 3", "give t d 1 2 3", "give t e 1 2 3", "give t f 1 2 3", "give t g 1 2 3")
        self.refuses(TooMuch, "give t h 1 2 3", "give t h 1", "rule t h cells 1", "rule t h cells none")
        self.says("give t g 4 5 6")

    def test_rule(self):
        self.refuses(NoName, "rule t A cells 1", "rule t abcdefghi cells none")
        self.refuses(NoColumn, "rule t c cells none", "rule t c lookup a none n w", "rule t c lookup a u none w")
        self.refuses(NoColumn, "rule t c group a none sum", "rule t c mend none 1", "rule t c above 1 + up none")
        self.refuses(NoColumn, "rule t c cells up")
        self.refuses(Ring, "rule t a cells s", "rule t s cells s", "rule t c cells c", "rule t c above 1 + up c")
        self.refuses(Ring, "rule t c lookup a t b c", "rule t c group a c sum")
        with self.assertRaises(Ring) as caught:
            self.desk.say("rule t a cells s")
        self.assertEqual(caught.exception.ring, [("t", "a"), ("t", "s")])

    def test_put(self):
        self.refuses(NoColumn, "put t none 0 1", "put t A 99 1", "put t a.b 0 1")
        self.refuses(Ruled, "put t s 0 1", "put t s 99 1")
        self.refuses(NoPlace, "put t a 3 1", "put t a -1 1", "put t a " + S + " 1", "put e a 0 1")

    def test_in(self):
        self.refuses(NoPlace, "in t 4 a 1 b 2", "in t -1 a 1 b 2", "in t 4")
        self.refuses(NoValue, "in t 0", "in t 0 a 1", "in t 0 a 1 c 2", "in t 0 a 1 b 2 c 3", "in t 0 a 1 b 2 s 3", "in t 0 a 1 s 2")
        self.says(*["in u 0 n 1 w 2"] * 26)
        self.refuses(TooMuch, "in u 0 n 1 w 2", "in u 0")
        self.refuses(NoPlace, "in u 31")

    def test_a_column_told_twice(self):
        self.refuses(NoValue, "in t 0 a 1 a 2", "in t 0 a 1 a 1", "in t 0 a 1 b 2 a 1", "in t 0 a 1 b 2 b 2", "in t 0 c 1 c 1")

    def test_out(self):
        self.refuses(NoPlace, "out t 3", "out t -1", "out e 0")
        self.says("out t 0", "out t 0", "out t 0")
        self.refuses(NoPlace, "out t 0")
        self.answers("column t s", "")

    def test_looks(self):
        for column in ["none", "A", "a.b", "t.a", "abcdefghi", "\u0430"]:
            self.refuses(NoColumn, f"cell t {column} 0", f"cell t {column} 99", f"column t {column}", f"total t {column}")
            self.refuses(NoColumn, f"came t {column} 0", f"came t {column} 99", f"some t {column} a", f"some t a {column}")
            self.refuses(NoColumn, f"order t {column} a", f"order t a {column}", f"column e {column}")
        self.refuses(NoPlace, "cell t a 3", "cell t a -1", "cell e a 0", "came t a 3", "came t s -1", "cell t a " + S)

    def test_views(self):
        for row in ["beside t # u n w", "beside t a u # w", "beside t a u n #"]:
            for column in ["none", "A", "u.n", "t.a", "a.b", "."]:
                self.refuses(NoColumn, row.replace("#", column))
                self.refuses(NoColumn, row.replace("#", column).replace("beside", "through") + " 99 1")
        # A column of the view beneath is none of the table's.
        self.refuses(NoColumn, "beside t a u n a", "beside t a u n b", "through t a u n a 0 1")
        self.refuses(NoPlace, "through t a u n w 3 1", "through t a u n w -1 1", "through t b u n w 3 1", "through e a u n w 0 1")

    def test_tables_come_ahead_of_columns(self):
        self.refuses(NoTable, "beside t none none n w", "beside none none u n w", "through t none none none none 99 1")


if __name__ == "__main__":
    unittest.main()
