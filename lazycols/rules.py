"""The five kinds of rules: what each looks at, and what its function is called with."""

from lazycols.errors import NoName, NoValue
from lazycols.values import is_fault, is_name, is_number, settled

MOST_NAMES = 6
LACKS = ("fault", "lacks")


def check_name(name):
    if not is_name(name):
        raise NoName("a rule names columns and tables by one to eight small letters")


def checked_names(names):
    if not isinstance(names, list) or len(names) > MOST_NAMES:
        raise NoName("a rule has a list of at most six names")
    for name in names:
        check_name(name)
    return list(names)


def each_once(spots):
    found = []
    for spot in spots:
        if spot not in found:
            found.append(spot)
    return found


# Nothing behind the first fault is looked at: a look may cost a reckoning.
def look_in_turn(look, cells):
    numbers = []
    for table, column, place in cells:
        value = look(table, column, place)
        if is_fault(value):
            return ("value", value)
        numbers.append(value)
    return ("call", numbers)


class Rule:
    def __init__(self, function):
        self.function = function

    # The function gets a list of its own, and may do with it what it likes.
    def reckon(self, some):
        return settled(self.function(list(some)))


class Cells(Rule):
    def __init__(self, names, function):
        Rule.__init__(self, function)
        self.names = checked_names(names)

    def leans(self, table):
        return each_once([(table, name) for name in self.names])

    def gather(self, look, many, table, column, place):
        return look_in_turn(look, [(table, name, place) for name in self.names])


class Above(Rule):
    def __init__(self, first, names, function):
        Rule.__init__(self, function)
        self.names = checked_names(names)
        if not is_number(first):
            raise NoValue("the first one is a whole number of at most sixty figures")
        self.first = first

    def leans(self, table):
        return each_once([(table, name) for name in self.names])

    def gather(self, look, many, table, column, place):
        cells = [(table, name, place) for name in self.names]
        if place > 0:
            return look_in_turn(look, [(table, column, place - 1)] + cells)
        told = look_in_turn(look, cells)
        if told[0] == "value":
            return told
        return ("call", [self.first] + told[1])


class Group(Rule):
    def __init__(self, key, name, function):
        Rule.__init__(self, function)
        check_name(key)
        check_name(name)
        self.key = key
        self.name = name

    def leans(self, table):
        return each_once([(table, self.key), (table, self.name)])

    def gather(self, look, many, table, column, place):
        own = look(table, self.key, place)
        if is_fault(own):
            return ("value", own)
        numbers = []
        for row in range(many(table)):
            if look(table, self.key, row) == own:
                value = look(table, self.name, row)
                if is_fault(value):
                    return ("value", value)
                numbers.append(value)
        return ("call", numbers)


class Lookup(Rule):
    def __init__(self, key, table, theirs, names, function):
        Rule.__init__(self, function)
        check_name(key)
        check_name(table)
        check_name(theirs)
        self.key = key
        self.other = table
        self.theirs = theirs
        self.names = checked_names(names)

    def leans(self, table):
        theirs = [(self.other, name) for name in [self.theirs] + self.names]
        return each_once([(table, self.key)] + theirs)

    def gather(self, look, many, table, column, place):
        own = look(table, self.key, place)
        if is_fault(own):
            return ("value", own)
        for row in range(many(self.other)):
            if look(self.other, self.theirs, row) == own:
                return look_in_turn(look, [(self.other, name, row) for name in self.names])
        return ("value", LACKS)


class Mend(Rule):
    def __init__(self, name, function):
        Rule.__init__(self, function)
        check_name(name)
        self.name = name

    def leans(self, table):
        return [(table, self.name)]

    def gather(self, look, many, table, column, place):
        value = look(table, self.name, place)
        if is_fault(value):
            return ("call", [])
        return ("value", value)
