"""The tables of a sheet, and the changes that it takes and takes back."""

from lazycols.tables import Table
from lazycols.values import is_name


# A table of a sheet: its given columns lie in a Table, which keeps the rows and their numbers; its ruled ones have
# rules, and what their cells remember stands by the rows' numbers, wherever the rows stand.
class Board:
    def __init__(self, many):
        self.given = Table(many)
        self.rules = {}
        self.memory = {}
        self.order = []

    def has_column(self, column):
        return is_name(column) and column in self.order

    # What stands by a column's name: a rule, a list of values, or None.
    def content(self, column):
        if column in self.rules:
            return self.rules[column]
        if column in self.order:
            return [self.given.at(column, place) for place in range(self.given.many())]
        return None

    # Whatever comes by the name, even the same rule again: what the column remembered is forgotten.
    def set_column(self, column, content):
        self.empty_column(column)
        if content is None:
            self.order.remove(column)
            return
        if column not in self.order:
            self.order.append(column)
        if isinstance(content, list):
            self.given.give(column, content)
        else:
            self.rules[column] = content
            self.memory[column] = {}

    def empty_column(self, column):
        if column in self.rules:
            self.rules.pop(column)
            self.memory.pop(column)
        elif column in self.order:
            self.given.drop(column)

    # The one place where a function is called: for a list unlike the one that the cell remembers.
    def outcome(self, column, place, some):
        remembered = self.memory[column]
        number = self.given.number_at(place)
        if number not in remembered or remembered[number][0] != some:
            remembered[number] = (some, self.rules[column].reckon(some))
        return remembered[number][1]


# Each change below takes itself, refusing what a Table refuses ahead of changing anything; what was handed in is read
# then and never later. It takes itself back as the last one of those that were taken: the sheet stands then as it did
# right behind it.


class TableTold:
    def __init__(self, boards, name, size):
        self.boards = boards
        self.name = name
        self.size = size

    def take(self):
        self.boards[self.name] = Board(self.size)

    def take_back(self):
        self.boards.pop(self.name)


class ColumnSet:
    def __init__(self, board, column, content):
        self.board = board
        self.column = column
        self.after = content
        self.before = None

    def take(self):
        self.before = self.board.content(self.column)
        self.board.set_column(self.column, self.after)

    def take_back(self):
        self.board.set_column(self.column, self.before)


class ValuePut:
    def __init__(self, board, column, place, value):
        self.board = board
        self.column = column
        self.place = place
        self.after = value
        self.before = None

    def take(self):
        self.before = self.board.given.at(self.column, self.place)
        self.board.given.put(self.column, self.place, self.after)

    def take_back(self):
        self.board.given.put(self.column, self.place, self.before)


class RowPutIn:
    def __init__(self, board, place, row):
        self.board = board
        self.place = place
        self.after = row

    def take(self):
        self.board.given.put_in(self.place, self.after)

    # Its number never comes again, so what its cells remember is gone with it.
    def take_back(self):
        self.board.given.take_out(self.place)


class RowTakenOut:
    def __init__(self, board, place):
        self.board = board
        self.place = place
        self.number = None
        self.before = None

    def take(self):
        self.number = self.board.given.number_at(self.place)
        self.before = self.board.given.row_at(self.place)
        self.board.given.take_out(self.place)

    # What its cells remember was left where it is, by its number.
    def take_back(self):
        self.board.given.stand(self.place, self.number, self.before)
