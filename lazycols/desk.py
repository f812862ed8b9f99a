"""The desk: a sheet that is told rows of words and answers each with a text."""

from lazycols.errors import NoPlace, NoRow, NoValue
from lazycols.sheets import Sheet
from lazycols.texts import read_rule, read_value, show_value
from lazycols.views import Beside, Ordered, Some, Whole
from lazycols.words import writes_number

DONE = "ok"

# What the words behind the first one are: T, U tables, C, D, K columns, P, N numbers, V a value, X the text of a rule.
FORMS = {
    "table": "TN", "give": "TC", "rule": "TCX", "put": "TCPV", "in": "TP", "out": "TP", "back": "", "cell": "TCP",
    "column": "TC", "total": "TC", "came": "TCP", "some": "TCD", "order": "TCD", "beside": "TKUCD",
    "through": "TKUCDPV",
}

# What may follow again and again behind these words.
AGAIN = {"give": "V", "in": "CV"}


def parted(row):
    if not isinstance(row, str):
        raise NoRow("a row is a text")
    # The text of a rule has blanks of its own, and is one word here.
    if row.startswith("rule "):
        return row.split(" ", 3)
    return row.split(" ")


def letters_for(words):
    first = words[0]
    if first not in FORMS:
        raise NoRow("no row begins so")
    letters = FORMS[first]
    while first in AGAIN and len(letters) < len(words) - 1:
        letters = letters + AGAIN[first]
    if len(letters) != len(words) - 1:
        raise NoRow("the row has more or fewer words than rows that begin so")
    return letters


def read_place(word):
    if not writes_number(word):
        raise NoPlace("the word writes no number")
    return int(word)


def read_word(letter, word):
    if letter == "V":
        return read_value(word)
    if letter in ("P", "N"):
        return read_place(word)
    if letter == "X":
        return read_rule(word)
    return word


def show_values(values):
    return " ".join([show_value(value) for value in values])


# Each of these carries out one kind of row; said are its words behind the first one, read.


def do_table(sheet, said):
    sheet.table(said[0], said[1])
    return DONE


def do_give(sheet, said):
    sheet.give(said[0], said[1], said[2:])
    return DONE


def do_rule(sheet, said):
    sheet.rule(said[0], said[1], said[2])
    return DONE


def do_put(sheet, said):
    sheet.put(said[0], said[1], said[2], said[3])
    return DONE


def do_in(sheet, said):
    columns = said[2::2]
    # A dict would keep the last of them alone, and the sheet would never see it.
    if len(set(columns)) != len(columns):
        raise NoValue("a column is told twice")
    sheet.put_in(said[0], said[1], dict(zip(columns, said[3::2])))
    return DONE


def do_out(sheet, said):
    sheet.take_out(said[0], said[1])
    return DONE


def do_back(sheet, said):
    sheet.back()
    return DONE


def do_cell(sheet, said):
    return show_value(sheet.cell(said[0], said[1], said[2]))


def do_column(sheet, said):
    return show_values(sheet.stretch(said[0], said[1], 0, sheet.many(said[0])))


def do_total(sheet, said):
    return show_value(sheet.total(said[0], said[1]))


def do_came(sheet, said):
    cells = sheet.came_of(said[0], said[1], said[2])
    if not cells:
        return "none"
    return " ".join([table + "." + column + "." + str(place) for table, column, place in cells])


def do_some(sheet, said):
    return show_values(Some(Whole(sheet, said[0]), said[1]).shown(said[2]))


def do_order(sheet, said):
    return show_values(Ordered(Whole(sheet, said[0]), said[1]).shown(said[2]))


def view_beside(sheet, said):
    return Beside(Whole(sheet, said[0]), said[1], sheet, said[2], said[3])


def column_beside(said):
    return said[2] + "." + said[4]


def do_beside(sheet, said):
    return show_values(view_beside(sheet, said).shown(column_beside(said)))


def do_through(sheet, said):
    view_beside(sheet, said).put(column_beside(said), said[5], said[6])
    return DONE


DEEDS = {
    "table": do_table, "give": do_give, "rule": do_rule, "put": do_put, "in": do_in, "out": do_out, "back": do_back,
    "cell": do_cell, "column": do_column, "total": do_total, "came": do_came, "some": do_some, "order": do_order,
    "beside": do_beside, "through": do_through,
}


class Desk:
    def __init__(self):
        self.sheet = Sheet()

    def say(self, row):
        words = parted(row)
        letters = letters_for(words)
        said = [read_word(letter, word) for letter, word in zip(letters, words[1:])]
        return DEEDS[words[0]](self.sheet, said)
