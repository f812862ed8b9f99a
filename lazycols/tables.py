"""A table by itself: rows with numbers, and columns of given values."""

from lazycols.errors import NoColumn, NoName, NoPlace, NoSize, NoValue, TooMuch
from lazycols.values import is_name, is_value, is_whole

MOST_ROWS = 30
MOST_COLUMNS = 8


def check_size(many):
    if not is_whole(many) or not 0 <= many <= MOST_ROWS:
        raise NoSize("a table has 0 to 30 rows")


def check_place(place, places):
    if not is_whole(place) or not 0 <= place < places:
        raise NoPlace("there is no such place")


def check_value(value):
    if not is_value(value):
        raise NoValue("a value is a whole number of at most sixty figures, or a fault")


def check_values(values, many):
    if not isinstance(values, list) or len(values) != many or not all([is_value(value) for value in values]):
        raise NoValue("a column is given by a list of as many values as rows")


# The dict is walked, never asked for a key: its keys may be of a kind whose == can't be trusted.
def check_row(values, columns):
    if not isinstance(values, dict) or len(values) != len(columns):
        raise NoValue("a row is told by a dict with a value for each column")
    for column, value in values.items():
        if not is_name(column) or column not in columns:
            raise NoValue("a row has values for its columns alone")
        check_value(value)


class Table:
    def __init__(self, many):
        check_size(many)
        self.row_numbers = list(range(many))
        self.fresh_number = len(self.row_numbers)
        self.kept = {}

    def many(self):
        return len(self.row_numbers)

    def numbers(self):
        return list(self.row_numbers)

    def columns(self):
        return list(self.kept)

    def give(self, column, values):
        if not is_name(column):
            raise NoName("a column's name is one to eight small letters")
        if column not in self.kept and len(self.kept) >= MOST_COLUMNS:
            raise TooMuch("a table has at most 8 columns")
        check_values(values, self.many())
        self.kept[column] = list(values)

    def drop(self, column):
        self.check_column(column)
        self.kept.pop(column)

    def put(self, column, place, value):
        self.check_column(column)
        check_place(place, self.many())
        check_value(value)
        self.kept[column][place] = value

    def at(self, column, place):
        self.check_column(column)
        check_place(place, self.many())
        return self.kept[column][place]

    def put_in(self, place, values):
        check_place(place, self.many() + 1)
        if self.many() >= MOST_ROWS:
            raise TooMuch("a table has at most 30 rows")
        check_row(values, self.columns())
        self.stand(place, self.fresh_number, values)
        # The number is spent for good: a row taken out leaves it to no other row.
        self.fresh_number = self.fresh_number + 1

    def take_out(self, place):
        check_place(place, self.many())
        for column in self.columns():
            self.kept[column].pop(place)
        self.row_numbers.pop(place)

    # A row that was taken out may stand again, with the number that it had: so the number is told here.
    def stand(self, place, number, values):
        for column in self.columns():
            self.kept[column].insert(place, values[column])
        self.row_numbers.insert(place, number)

    def number_at(self, place):
        check_place(place, self.many())
        return self.row_numbers[place]

    def row_at(self, place):
        check_place(place, self.many())
        return dict([(column, self.kept[column][place]) for column in self.kept])

    # No column stands by what is no name; asked first, as not all things can be keys of a dict.
    def check_column(self, column):
        if not is_name(column) or column not in self.kept:
            raise NoColumn("there is no such column")
