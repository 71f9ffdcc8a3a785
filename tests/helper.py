"""What several tests need: all beginnings, things that are none, points to look at, books and questions."""

from itertools import product

from voidquilt.book import Book

BEGINNINGS = ["".join(signs) for count in range(6) for signs in product("01", repeat=count)]
SHORT_BEGINNINGS = [beginning for beginning in BEGINNINGS if len(beginning) <= 2]

LEAST_LONG = -(10 ** 30 - 1)
MOST_LONG = 10 ** 30 - 1

NO_WORTHS = [-1, 32, 33, -32, 10 ** 29, -(10 ** 29), MOST_LONG, LEAST_LONG, True, False, None,
             "", "3", "00110", 3.0, 0.5, b"3", [3], (3,), {3: 3}, {3}]

NO_BEGINNINGS = ["000000", "010101", "0" * 400, "2", "0a", "01 ", " 01", "0*", "*", "-1", "0\n", "\n",
                 "\u0661", "0,1", None, True, False, 0, 1, 10, MOST_LONG, 1.0, b"", b"01",
                 [], ["0"], ["0", "1"], (), ("0",), {}, {"0": "1"}]

NO_TUPLES = [None, True, False, 0, 5, -1, 3.0, "", "01", "0" * 400, b"01", [], [""], ["0", "1"], [3], [3, 4], {},
             {"0": "1"}, {3}]


def with_at(good, bad):
    """A tuple of one to five places with the bad thing at any of them."""
    return [(good,) * at + (bad,) + (good,) * (many - at - 1) for many in range(1, 6) for at in range(many)]


NO_BOXES = NO_TUPLES + [(), ("",) * 6, ("0",) * 6] + [
    thing for bad in NO_BEGINNINGS for thing in with_at("01", bad)]
NO_POINTS = NO_TUPLES + [(), (3,) * 6] + [thing for bad in NO_WORTHS for thing in with_at(7, bad)]


def figures_by_hand(worth):
    """The digits by twos, each reckoned by itself."""
    return "".join("01"[worth // power % 2] for power in (16, 8, 4, 2, 1))


def under(beginning):
    """The worths whose figures begin so, looked for one by one."""
    return [worth for worth in range(32) if figures_by_hand(worth)[:len(beginning)] == beginning]


def begins(one, other):
    return one[:len(other)] == other


def apart(one, other):
    """Whether neither of two beginnings begins with the other one."""
    return not begins(one, other) and not begins(other, one)


def points_of(box):
    return list(product(*[under(beginning) for beginning in box]))


def in_box(point, box):
    return all(begins(figures_by_hand(worth), beginning) for worth, beginning in zip(point, box))


def book_of(tables):
    """A book with these tables, told as {name: (width, rows)}."""
    book = Book()
    for name, (width, rows) in tables.items():
        book.make(name, width)
        book.fill(name, rows)
    return book


def state_of(book):
    """All that a book tells of itself."""
    return ({name: (book.width(name), book.rows(name)) for name in book.names()}, len(book), repr(book), book.steps())


def fits(book, question, point):
    """Whether a point fits, by [11] word for word."""
    names, _, ties, less = question
    worths = dict(zip(names, point))
    return (all(tuple(worths.get(term, term) for term in terms) in book.rows(table) for table, terms in ties)
            and all(worths[first] < worths[second] for first, second in less))


def fitting(book, question, worths):
    """The points that fit, of those that have only these worths."""
    return [point for point in product(worths, repeat=len(question[0])) if fits(book, question, point)]


def random_rows(chance, width, worths, most):
    """Some unlike rows in any order."""
    rows = {tuple(chance.choice(worths) for _ in range(width)) for _ in range(chance.randint(0, most))}
    return chance.sample(sorted(rows), len(rows))


def random_tables(chance, worths):
    return {name: (width, random_rows(chance, width, worths, 36))
            for name, width in (("one", 1), ("edge", 2), ("arc", 2), ("tri", 3), ("quad", 4))}


def random_question(chance, tables, worths):
    """A question that fits tables told as {name: (width, rows)}."""
    names = tuple(chance.sample(["a", "b", "ca", "dog", "eeee", "x", "zz"], chance.randint(1, 4)))
    while True:
        ties = []
        for _ in range(chance.randint(1, 4)):
            table = chance.choice(sorted(tables))
            terms = [chance.choice(worths) if chance.random() < 0.15 else chance.choice(names)
                     for _ in range(tables[table][0])]
            ties.append((table, tuple(terms)))
        if all(any(name in terms for _, terms in ties) for name in names):
            break
    less = [tuple(chance.sample(names, 2)) for _ in range(chance.choice([0, 0, 1, 2])) if len(names) > 1]
    return (names, chance.randint(1, len(names)), tuple(ties), tuple(less))
