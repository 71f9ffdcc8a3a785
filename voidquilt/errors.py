"""All refusals of the program.

Each object gets the name of its class in `called` as it is made: an error class here has
no class values, and an object can't be asked for its class.
The parts of Python's own are left to Python, which keeps what an error is made with as its message.
"""


class QuiltError(ValueError):
    """What all refusals are but those of missing things."""

    def __init__(self):
        self.called = "QuiltError"


class BadWorth(QuiltError):
    """No number from 0 to 31."""

    def __init__(self):
        self.called = "BadWorth"


class BadBeginning(QuiltError):
    """No text of 0 to 5 signs 0 and 1, or the empty one where it has no brother."""

    def __init__(self):
        self.called = "BadBeginning"


class BadPoint(QuiltError):
    """No tuple of as many worths as are wanted."""

    def __init__(self):
        self.called = "BadPoint"


class BadBox(QuiltError):
    """No tuple of as many beginnings as are wanted."""

    def __init__(self):
        self.called = "BadBox"


class Unlike(QuiltError):
    """Two things of rooms with another count of places."""

    def __init__(self):
        self.called = "Unlike"


class Off(QuiltError):
    """A walker can't do this from where it stands."""

    def __init__(self):
        self.called = "Off"


class BadName(QuiltError):
    """No name that a table can have."""

    def __init__(self):
        self.called = "BadName"


class Taken(QuiltError):
    """A table of this name is there."""

    def __init__(self, name):
        self.called = "Taken"
        self.name = name


class BadWidth(QuiltError):
    """No width that a table can have."""

    def __init__(self):
        self.called = "BadWidth"


class BadRow(QuiltError):
    """No row, or no rows, of the table's width."""

    def __init__(self):
        self.called = "BadRow"


class There(QuiltError):
    """The table has this row."""

    def __init__(self):
        self.called = "There"


class Full(QuiltError):
    """There is no room for more of these: "tables" or "rows"."""

    def __init__(self, what):
        self.called = "Full"
        self.what = what


class BadDeed(QuiltError):
    """No tuple of a deed's word and as many things as it has."""

    def __init__(self):
        self.called = "BadDeed"


class BadQuestion(QuiltError):
    """A thing that is no question."""

    def __init__(self):
        self.called = "BadQuestion"


class BadText(QuiltError):
    """A text that can't be read, and the number of the place or row where it can't."""

    def __init__(self, at):
        self.called = "BadText"
        self.at = at


class Unfit(QuiltError):
    """The number of the first tie with another count of terms than its table's width."""

    def __init__(self, at):
        self.called = "Unfit"
        self.at = at


class BadOrder(QuiltError):
    """No order of all names of the question, each once."""

    def __init__(self):
        self.called = "BadOrder"


class BadPower(QuiltError):
    """No power from 0 to 5 that makes each part whole."""

    def __init__(self):
        self.called = "BadPower"


class TooMany(QuiltError):
    """The ties let by more rows together than this."""

    def __init__(self, most):
        self.called = "TooMany"
        self.most = most


class Missing(LookupError):
    """Something of this name isn't there."""

    def __init__(self, name):
        self.called = "Missing"
        self.name = name


class NoTable(Missing):
    """There is no table of this name."""

    def __init__(self, name):
        Missing.__init__(self, name)
        self.called = "NoTable"


class NoRow(Missing):
    """The table of this name doesn't have the row."""

    def __init__(self, name):
        Missing.__init__(self, name)
        self.called = "NoRow"


class Nothing(IndexError):
    """There is nothing to take back, or to do again."""

    def __init__(self):
        self.called = "Nothing"
