"""Views: rows of a sheet's tables, some of them, in other orders, beside others; and puts through them."""

from lazycols.errors import Nobody, NoColumn, NoName, NoPlace, Several
from lazycols.rules import LACKS
from lazycols.tables import check_place
from lazycols.values import is_fault, is_whole


# A view's columns may bear a point, so they aren't all names; the kind is asked first, as things of any kind come here.
def check_column(column, columns):
    if not isinstance(column, str) or column not in columns:
        raise NoColumn("there is no such column")


def check_count(count):
    if not is_whole(count) or count < 0:
        raise NoPlace("a start or a count is a whole number from 0 on")


def behind_point(column):
    return column.partition(".")[2]


# A cell of a table, with the sheet that it is of.
class Spot:
    def __init__(self, sheet, name, column, place):
        self.sheet = sheet
        self.name = name
        self.column = column
        self.place = place

    def told(self):
        return (self.name, self.column, self.place)

    def fill(self, value):
        self.sheet.put(self.name, self.column, self.place, value)


# Each kind of view has rows(), which wants all by which it goes and tells its rows in a form of its own; value_at and
# spots_at take a row in that form, so that the rows are found once for each asking, however deep views are nested.
# What isn't told otherwise is as in the view beneath.
class View:
    def columns(self):
        return self.view.columns()

    def rows(self):
        return self.view.rows()

    def value_at(self, column, row):
        return self.view.value_at(column, row)

    def spots_at(self, column, row):
        return self.view.spots_at(column, row)

    def many(self):
        return len(self.rows())

    def look(self, column, place):
        return self.value_at(column, self.asked_row(column, place))

    def shown(self, column):
        check_column(column, self.columns())
        return [self.value_at(column, row) for row in self.rows()]

    def spots(self, column, place):
        return [spot.told() for spot in self.spots_at(column, self.asked_row(column, place))]

    def put(self, column, place, value):
        found = self.spots_at(column, self.asked_row(column, place))
        if not found:
            raise Nobody("no cell of a table is shown there")
        if len(found) > 1:
            raise Several("more than one row of the table matches")
        found[0].fill(value)

    # A column that isn't there calls nothing; a place is refused only behind what the view goes by.
    def asked_row(self, column, place):
        check_column(column, self.columns())
        rows = self.rows()
        check_place(place, len(rows))
        return rows[place]


class Whole(View):
    def __init__(self, sheet, table):
        # Asked only so that the sheet refuses a table that isn't there.
        sheet.many(table)
        self.sheet = sheet
        self.name = table

    def columns(self):
        return self.sheet.columns(self.name)

    def rows(self):
        return list(range(self.sheet.many(self.name)))

    def value_at(self, column, row):
        return self.sheet.cell(self.name, column, row)

    def spots_at(self, column, row):
        return [Spot(self.sheet, self.name, column, row)]


class Some(View):
    def __init__(self, view, column):
        check_column(column, view.columns())
        self.view = view
        self.column = column

    def rows(self):
        return [row for row in self.view.rows() if self.has_row(row)]

    def has_row(self, row):
        value = self.view.value_at(self.column, row)
        return not is_fault(value) and value != 0


class Ordered(View):
    def __init__(self, view, column):
        check_column(column, view.columns())
        self.view = view
        self.column = column

    def rows(self):
        return sorted(self.view.rows(), key=lambda row: self.rank(row))

    def rank(self, row):
        value = self.view.value_at(self.column, row)
        if is_fault(value):
            return (1, 0)
        return (0, value)


class Cut(View):
    def __init__(self, view, start, count):
        check_count(start)
        check_count(count)
        self.view = view
        self.start = start
        self.count = count

    def rows(self):
        return self.view.rows()[self.start:self.start + self.count]


class Together(View):
    def __init__(self, one, other):
        self.one = one
        self.other = other

    def columns(self):
        shared = self.other.columns()
        return [column for column in self.one.columns() if column in shared]

    # A row is told with the view that it is of.
    def rows(self):
        return [(self.one, row) for row in self.one.rows()] + [(self.other, row) for row in self.other.rows()]

    def value_at(self, column, row):
        return row[0].value_at(column, row[1])

    def spots_at(self, column, row):
        return row[0].spots_at(column, row[1])


class Beside(View):
    def __init__(self, view, key, sheet, table, theirs):
        added = sheet.columns(table)
        check_column(key, view.columns())
        check_column(theirs, added)
        self.view = view
        self.key = key
        self.sheet = sheet
        self.name = table
        self.theirs = theirs
        if len(set(self.columns())) != len(self.columns()):
            raise NoName("the view would have two columns by one name")

    def columns(self):
        return self.view.columns() + [self.name + "." + column for column in self.sheet.columns(self.name)]

    def value_at(self, column, row):
        if not self.is_theirs(column):
            return self.view.value_at(column, row)
        key = self.view.value_at(self.key, row)
        if is_fault(key):
            return key
        places = self.matching(key)
        if not places:
            return LACKS
        return self.sheet.cell(self.name, behind_point(column), places[0])

    def spots_at(self, column, row):
        if not self.is_theirs(column):
            return self.view.spots_at(column, row)
        places = self.matching(self.view.value_at(self.key, row))
        return [Spot(self.sheet, self.name, behind_point(column), place) for place in places]

    def is_theirs(self, column):
        return column not in self.view.columns()

    # A fault as a key matches nothing, and for it nothing is looked at in the table.
    def matching(self, key):
        if is_fault(key):
            return []
        values = self.sheet.stretch(self.name, self.theirs, 0, self.sheet.many(self.name))
        return [place for place, value in enumerate(values) if value == key]
