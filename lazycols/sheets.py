"""Sheets: tables of given and ruled columns, that call a function only where a look wants it."""

from lazycols.changes import ColumnSet, RowPutIn, RowTakenOut, TableTold, ValuePut
from lazycols.errors import NoBack, NoColumn, NoName, NoPlace, NoTable, Ring, Ruled, TooMuch
from lazycols.rings import ring_from
from lazycols.tables import MOST_COLUMNS, check_place, check_size, check_values
from lazycols.values import is_fault, is_name, is_whole

MOST_TABLES = 4
UNKNOWN = ("fault", "unknown")


# One try at a rule. From the first cell on that isn't found yet, whatever is told to the rule is made up, so what the
# rule tells then counts for nothing; and only that first cell is surely wanted, as the looks behind it may hang on it.
class Trial:
    def __init__(self, finder):
        self.finder = finder
        self.looked = {}
        self.lacking = None

    def look(self, table, column, place):
        cell = (table, column, place)
        self.looked[cell] = True
        if self.lacking is None and not self.finder.knows(cell):
            self.lacking = cell
        if self.lacking is None:
            return self.finder.found[cell]
        return UNKNOWN


# What the cells come to while the sheet stands as it is: behind each change a sheet makes a new one.
class Finder:
    def __init__(self, boards):
        self.boards = boards
        self.found = {}
        self.looked = {}

    # The cells that wait for others stand in a list, not in calls within calls: so no chain of cells is too long.
    def value_of(self, cell):
        waiting = [cell]
        while waiting:
            lacking = self.attempt(waiting[-1])
            if lacking is None:
                waiting.pop()
            else:
                waiting.append(lacking)
        return self.found[cell]

    # Tells the cell that must be found first, or None where this one is found.
    def attempt(self, cell):
        if self.knows(cell):
            return None
        trial = Trial(self)
        told = self.gathered(trial, cell[0], cell[1], cell[2])
        if trial.lacking is None:
            self.looked[cell] = trial.looked
            self.found[cell] = self.settle(cell, told)
        return trial.lacking

    def gathered(self, trial, table, column, place):
        return self.boards[table].rules[column].gather(
            lambda theirs, name, row: trial.look(theirs, name, row),
            lambda theirs: self.boards[theirs].given.many(),
            table, column, place)

    def settle(self, cell, told):
        if told[0] == "value":
            return told[1]
        return self.boards[cell[0]].outcome(cell[1], cell[2], told[1])

    def knows(self, cell):
        board = self.boards[cell[0]]
        if cell not in self.found and cell[1] not in board.rules:
            self.found[cell] = board.given.at(cell[1], cell[2])
        return cell in self.found

    def given_cells(self, cell):
        self.value_of(cell)
        reached = {cell: True}
        waiting = [cell]
        found = []
        while waiting:
            reaching = waiting.pop()
            if reaching not in self.looked:
                found.append(reaching)
            for looked in self.looked.get(reaching, {}):
                if looked not in reached:
                    reached[looked] = True
                    waiting.append(looked)
        return sorted(found)


class Sheet:
    def __init__(self):
        self.boards = {}
        self.changes = []
        self.finder = Finder(self.boards)

    def table(self, name, many):
        if not is_name(name) or name in self.boards:
            raise NoName("a table's name is one to eight small letters, and no other table's")
        check_size(many)
        if len(self.boards) >= MOST_TABLES:
            raise TooMuch("a sheet has at most four tables")
        self.make(TableTold(self.boards, name, many))

    def give(self, table, column, values):
        board = self.board_for(table, column)
        check_values(values, board.given.many())
        self.make(ColumnSet(board, column, values))

    def rule(self, table, column, rule):
        board = self.board_for(table, column)
        leans = rule.leans(table)
        self.check_leans((table, column), leans)
        self.check_ring((table, column), leans)
        self.make(ColumnSet(board, column, rule))

    def put(self, table, column, place, value):
        board = self.board_with(table, column)
        if column in board.rules:
            raise Ruled("a ruled column is told by its rule alone")
        self.make(ValuePut(board, column, place, value))

    def put_in(self, table, place, values):
        self.make(RowPutIn(self.board_of(table), place, values))

    def take_out(self, table, place):
        self.make(RowTakenOut(self.board_of(table), place))

    def back(self):
        if not self.changes:
            raise NoBack("there is no change to take back")
        self.changes.pop().take_back()
        self.finder = Finder(self.boards)

    def tables(self):
        return list(self.boards)

    def columns(self, table):
        return list(self.board_of(table).order)

    def is_ruled(self, table, column):
        return column in self.board_with(table, column).rules

    def many(self, table):
        return self.board_of(table).given.many()

    def cell(self, table, column, place):
        self.check_cell(table, column, place)
        return self.finder.value_of((table, column, place))

    def stretch(self, table, column, start, end):
        many = self.board_with(table, column).given.many()
        if not is_whole(start) or not is_whole(end) or not 0 <= start <= end <= many:
            raise NoPlace("a stretch goes from a start up to an end, within the rows")
        return [self.finder.value_of((table, column, place)) for place in range(start, end)]

    # The cells behind a fault aren't wanted: it is the total, whatever they are.
    def total(self, table, column):
        found = 0
        for place in range(self.board_with(table, column).given.many()):
            value = self.finder.value_of((table, column, place))
            if is_fault(value):
                return value
            found = found + value
        return found

    def came_of(self, table, column, place):
        self.check_cell(table, column, place)
        return self.finder.given_cells((table, column, place))

    # A change that refuses raises ahead of being noted.
    def make(self, change):
        change.take()
        self.changes.append(change)
        self.finder = Finder(self.boards)

    def board_of(self, table):
        if not is_name(table) or table not in self.boards:
            raise NoTable("there is no such table")
        return self.boards[table]

    def board_with(self, table, column):
        board = self.board_of(table)
        if not board.has_column(column):
            raise NoColumn("there is no such column")
        return board

    # The board in which a column may be given or ruled, new or in place of one.
    def board_for(self, table, column):
        board = self.board_of(table)
        if not is_name(column):
            raise NoName("a column's name is one to eight small letters")
        if column not in board.order and len(board.order) >= MOST_COLUMNS:
            raise TooMuch("a table has at most 8 columns")
        return board

    def check_cell(self, table, column, place):
        check_place(place, self.board_with(table, column).given.many())

    # The rule's own column counts as there: to lean on it is a ring, no lack.
    def check_leans(self, spot, leans):
        for table, column in leans:
            there = table in self.boards and self.boards[table].has_column(column)
            if not there and (table, column) != spot:
                raise NoColumn("the rule names a column or a table that isn't there")

    def check_ring(self, spot, leans):
        leanings = {}
        for table in self.boards:
            rules = self.boards[table].rules
            for column in rules:
                leanings[(table, column)] = rules[column].leans(table)
        leanings[spot] = leans
        found = ring_from(leanings, spot)
        if found is not None:
            raise Ring(found)
