"""Questions: what is one, and how they are written and read."""

from voidquilt.bits import WORTHS, is_number, is_worth
from voidquilt.book import LETTERS, MOST_LETTERS, MOST_WIDTH, is_name
from voidquilt.boxes import MOST_PLACES
from voidquilt.errors import BadQuestion, BadText

MOST_NAME = 4
MOST_TIES = 6
MOST_PAIRS = 3
DIGITS = "0123456789"


def is_tuple(thing, least, most):
    """Whether anything at all is a tuple of least to most things."""
    return isinstance(thing, tuple) and least <= len(thing) <= most


def are_names(thing):
    """Whether anything at all is a tuple of a question's names."""
    if not is_tuple(thing, 1, MOST_PLACES) or not all([is_name(part, MOST_NAME) for part in thing]):
        return False
    return len(set(thing)) == len(thing)


def is_tie(thing, names):
    """Whether anything at all is a tie of a question with these names."""
    if not is_tuple(thing, 2, 2):
        return False
    table, terms = thing
    if not is_name(table, MOST_LETTERS) or not is_tuple(terms, 1, MOST_WIDTH):
        return False
    return all([is_worth(term) or term in names for term in terms])


def is_pair(thing, names):
    """Whether anything at all is a pair of unlike names of these."""
    return is_tuple(thing, 2, 2) and all([part in names for part in thing]) and thing[0] != thing[1]


def all_tied(names, ties):
    """Whether each name stands in a tie."""
    terms = [term for tie in ties for term in tie[1]]
    return all([name in terms for name in names])


def is_question(thing):
    """Whether anything at all is a question."""
    if not is_tuple(thing, 4, 4):
        return False
    names, many, ties, less = thing
    if not are_names(names) or not is_number(many, 1, len(names) + 1):
        return False
    if not is_tuple(ties, 1, MOST_TIES) or not all([is_tie(tie, names) for tie in ties]):
        return False
    if not is_tuple(less, 0, MOST_PAIRS) or not all([is_pair(pair, names) for pair in less]):
        return False
    return all_tied(names, ties)


def need_question(question):
    if not is_question(question):
        raise BadQuestion()


def tie_text(tie):
    table, terms = tie
    inner = ",".join([str(term) for term in terms])
    return f"{table}({inner})"


def question_text(question):
    """The question as it is written."""
    need_question(question)
    names, many, ties, less = question
    words = ["find"] + list(names[:many])
    if many < len(names):
        words += ["some"] + list(names[many:])
    clauses = [tie_text(tie) for tie in ties] + [f"{first} < {second}" for first, second in less]
    return " ".join(words) + " : " + ", ".join(clauses)


def part_end(text, at):
    """The place behind the word, number or sign at this place."""
    for kind in (LETTERS, DIGITS):
        if text[at] in kind:
            while at < len(text) and text[at] in kind:
                at += 1
            return at
    return at + 1


def parts_of(text):
    """(place, part) of each word, number and sign, and one with an empty part for the end."""
    parts = []
    at = 0
    while at < len(text):
        behind = part_end(text, at)
        if text[at] != " ":
            parts.append((at, text[at:behind]))
        at = behind
    parts.append((len(text), ""))
    return parts


class Parts:
    """The words, numbers and signs of a text, and how many of them are read."""

    def __init__(self, text):
        self.found = parts_of(text)
        self.passed = 0

    def this(self):
        """The part that is read next, empty at the end."""
        return self.found[self.passed][1]

    def behind(self):
        """The part behind the next one, empty where there is none."""
        return "" if self.this() == "" else self.found[self.passed + 1][1]

    def need(self, fits):
        """Refuse the next part where it doesn't fit."""
        if not fits:
            raise BadText(self.found[self.passed][0])

    def read(self, fits):
        """Read the next part where it fits."""
        self.need(fits)
        part = self.this()
        self.passed += 1
        return part

    def read_sign(self, sign):
        return self.read(self.this() == sign)


def is_word(part):
    return part != "" and part[0] in LETTERS


def read_name(parts, names):
    """The names and the next one, which none of them is yet."""
    fits = is_name(parts.this(), MOST_NAME) and parts.this() not in names and len(names) < MOST_PLACES
    return [*names, parts.read(fits)]


def read_names(parts, names):
    """The names and one or more that come behind them."""
    names = read_name(parts, names)
    while is_word(parts.this()) and parts.this() != "some":
        names = read_name(parts, names)
    return names


def read_term(parts, names):
    if parts.this() in names:
        return parts.read(True)
    return int(parts.read(parts.this() in [str(worth) for worth in range(WORTHS)]))


def read_tie(parts, names):
    table = parts.read(is_name(parts.this(), MOST_LETTERS))
    parts.read_sign("(")
    terms = [read_term(parts, names)]
    while parts.this() == "," and len(terms) < MOST_WIDTH:
        parts.read_sign(",")
        terms.append(read_term(parts, names))
    parts.read_sign(")")
    return (table, tuple(terms))


def read_pair(parts, names):
    first = parts.read(parts.this() in names)
    parts.read_sign("<")
    second = parts.read(parts.this() in names and parts.this() != first)
    return (first, second)


def read_clauses(parts, names):
    """The ties and the pairs behind them, to the end of the text."""
    ties = []
    less = []
    while True:
        if parts.behind() == "<":
            parts.need(len(ties) > 0 and len(less) < MOST_PAIRS)
            less.append(read_pair(parts, names))
        else:
            parts.need(len(less) == 0 and len(ties) < MOST_TIES)
            ties.append(read_tie(parts, names))
        if parts.this() == "":
            return (ties, less)
        parts.read_sign(",")


def read_question(text):
    """The question that a text writes."""
    parts = Parts(text)
    parts.read_sign("find")
    names = read_names(parts, [])
    many = len(names)
    if parts.this() == "some":
        parts.read_sign("some")
        names = read_names(parts, names)
    parts.read_sign(":")
    ties, less = read_clauses(parts, names)
    if not all_tied(names, ties):
        raise BadText(0)
    return (tuple(names), many, tuple(ties), tuple(less))
