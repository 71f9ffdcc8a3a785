"""Tables that are kept through deeds, rows of deeds, and takings back."""

from voidquilt.bits import is_number, is_worth
from voidquilt.errors import BadDeed, BadName, BadRow, BadWidth, Full, NoRow, NoTable, Nothing, Taken, There

MOST_TABLES = 8
MOST_ROWS = 40
MOST_WIDTH = 4
MOST_LETTERS = 8
LETTERS = "abcdefghijklmnopqrstuvwxyz"
BARRED = ("find", "some")


def is_name(thing, most):
    """Whether anything at all is a name of 1 to so many letters."""
    if not isinstance(thing, str) or not 1 <= len(thing) <= most:
        return False
    return thing not in BARRED and all([sign in LETTERS for sign in thing])


def is_row(thing, width):
    """Whether anything at all is a tuple of so many worths."""
    return isinstance(thing, tuple) and len(thing) == width and all([is_worth(part) for part in thing])


def are_rows(thing, width):
    """Whether anything at all is a list or tuple of unlike rows."""
    if not isinstance(thing, (list, tuple)) or not all([is_row(part, width) for part in thing]):
        return False
    return len(set(thing)) == len(thing)


def need_row(row, width):
    if not is_row(row, width):
        raise BadRow()


def table_of(tables, name):
    """(width, rows) of the table of this name."""
    # A deed may name anything, also what can't be looked up.
    if not isinstance(name, str) or name not in tables:
        raise NoTable(name)
    return tables[name]


def with_rows(tables, name, rows):
    """The tables with these rows in one of them, and how many these are."""
    width = tables[name][0]
    return ({**tables, name: (width, tuple(sorted(rows)))}, len(rows))


def make_table(tables, name, width):
    if not is_name(name, MOST_LETTERS):
        raise BadName()
    if name in tables:
        raise Taken(name)
    if not is_number(width, 1, MOST_WIDTH + 1):
        raise BadWidth()
    if len(tables) >= MOST_TABLES:
        raise Full("tables")
    return ({**tables, name: (width, ())}, None)


def drop_table(tables, name):
    table_of(tables, name)
    return ({other: tables[other] for other in tables if other != name}, None)


def put_row(tables, name, row):
    width, rows = table_of(tables, name)
    need_row(row, width)
    if row in rows:
        raise There()
    if len(rows) >= MOST_ROWS:
        raise Full("rows")
    return with_rows(tables, name, [*rows, row])


def take_row(tables, name, row):
    width, rows = table_of(tables, name)
    need_row(row, width)
    if row not in rows:
        raise NoRow(name)
    return with_rows(tables, name, [other for other in rows if other != row])


def fill_table(tables, name, rows):
    width = table_of(tables, name)[0]
    if not are_rows(rows, width):
        raise BadRow()
    if len(rows) > MOST_ROWS:
        raise Full("rows")
    return with_rows(tables, name, rows)


ACTIONS = {"make": make_table, "drop": drop_table, "put": put_row, "take": take_row, "fill": fill_table}
COUNTS = {"make": 3, "drop": 2, "put": 3, "take": 3, "fill": 3}


def need_deed(thing):
    """Refuse anything but a tuple of a deed's word and as many things as it has."""
    if not isinstance(thing, tuple) or len(thing) == 0 or not isinstance(thing[0], str):
        raise BadDeed()
    if COUNTS.get(thing[0]) != len(thing):
        raise BadDeed()


def done(tables, deed):
    """The tables as they are behind the deed, and what it tells."""
    need_deed(deed)
    word, *things = deed
    action = ACTIONS[word]
    return action(tables, *things)


class Book:
    """Tables by their names, with what can be taken back and done again.

    Each deed makes a new dict of tables and leaves the old one as it was, so that the steps
    and the twins may share them.
    """

    def __init__(self):
        self.tables = {}
        self.past = []
        self.future = []

    def make(self, name, width):
        return self.do(("make", name, width))

    def drop(self, name):
        return self.do(("drop", name))

    def put(self, name, row):
        return self.do(("put", name, row))

    def take(self, name, row):
        return self.do(("take", name, row))

    def fill(self, name, rows):
        return self.do(("fill", name, rows))

    def do(self, deed):
        """Do one deed; what it tells."""
        return self.many([deed])[0]

    def many(self, deeds):
        """Do several deeds as one; what each tells."""
        tables = self.tables
        told = []
        for deed in deeds:
            tables, answer = done(tables, deed)
            told.append(answer)
        if told:
            self.past.append(self.tables)
            self.future = []
            self.tables = tables
        return told

    def undo(self):
        """Take back the last deed or row of deeds."""
        if not self.past:
            raise Nothing()
        self.future.append(self.tables)
        self.tables = self.past.pop()

    def redo(self):
        """Do again what was taken back last."""
        if not self.future:
            raise Nothing()
        self.past.append(self.tables)
        self.tables = self.future.pop()

    def names(self):
        return sorted(self.tables)

    def width(self, name):
        return table_of(self.tables, name)[0]

    def rows(self, name):
        return list(table_of(self.tables, name)[1])

    def steps(self):
        """(back, again): how many steps can be taken back, and how many done again."""
        return (len(self.past), len(self.future))

    def twin(self):
        other = Book()
        other.tables = self.tables
        other.past = list(self.past)
        other.future = list(self.future)
        return other

    def __eq__(self, other):
        return isinstance(other, Book) and self.tables == other.tables

    def __len__(self):
        return len(self.tables)

    def __repr__(self):
        rows = [row for table in self.tables.values() for row in table[1]]
        return f"Book({len(self.tables)} tables, {len(rows)} rows)"
