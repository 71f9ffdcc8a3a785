"""What several tests need: all beginnings, things that are none, points to look at, books, questions and papers."""

from itertools import product

from voidquilt.book import Book

BEGINNINGS = ["".join(signs) for count in range(6) for signs in product("01", repeat=count)]
SHORT_BEGINNINGS = [beginning for beginning in BEGINNINGS if len(beginning) <= 2]

LEAST_LONG = -(10 ** 30 - 1)
MOST_LONG = 10 ** 30 - 1

NO_WORTHS = [-1, 32, 33, -32, 10 ** 29, -(10 ** 29), MOST_LONG, LEAST_LONG, True, False, None,
             "", "3", "00110", 3.0, 0.5, b"3", [3], (3,), {3: 3}, {3}]

NO_BEGINNINGS = ["000000", "010101", "0" * 400, "2", "0a", "01 ", " 01", "0*", "*", "-1", "0\n", "\n",
                 "\u0661", "0,1", None, True, False, 0, 1, 10, MOST_LONG, 1.0, b"", b"01",
                 [], ["0"], ["0", "1"], (), ("0",), {}, {"0": "1"}]

NO_TUPLES = [None, True, False, 0, 5, -1, 3.0, "", "01", "0" * 400, b"01", [], [""], ["0", "1"], [3], [3, 4], {},
             {"0": "1"}, {3}]


def with_at(good, bad):
    """A tuple of one to five places with the bad thing at any of them."""
    return [(good,) * at + (bad,) + (good,) * (many - at - 1) for many in range(1, 6) for at in range(many)]


NO_BOXES = NO_TUPLES + [(), ("",) * 6, ("0",) * 6] + [
    thing for bad in NO_BEGINNINGS for thing in with_at("01", bad)]
NO_POINTS = NO_TUPLES + [(), (3,) * 6] + [thing for bad in NO_WORTHS for thing in with_at(7, bad)]


def figures_by_hand(worth):
    """The digits by twos, each reckoned by itself."""
    return "".join("01"[worth // power % 2] for power in (16, 8, 4, 2, 1))


def under(beginning):
    """The worths whose figures begin so, looked for one by one."""
    return [worth for worth in range(32) if figures_by_hand(worth)[:len(beginning)] == beginning]


def begins(one, other):
    return one[:len(other)] == other


def apart(one, other):
    """Whether neither of two beginnings begins with the other one."""
    return not begins(one, other) and not begins(other, one)


def points_of(box):
    return list(product(*[under(beginning) for beginning in box]))


def in_box(point, box):
    return all(begins(figures_by_hand(worth), beginning) for worth, beginning in zip(point, box))


def book_of(tables):
    """A book with these tables, told as {name: (width, rows)}."""
    book = Book()
    for name, (width, rows) in tables.items():
        book.make(name, width)
        book.fill(name, rows)
    return book


def state_of(book):
    """All that a book tells of itself."""
    return ({name: (book.width(name), book.rows(name)) for name in book.names()}, len(book), repr(book), book.steps())


def fits(book, question, point):
    """Whether a point fits, by [11] word for word."""
    names, _, ties, less = question
    worths = dict(zip(names, point))
    return (all(tuple(worths.get(term, term) for term in terms) in book.rows(table) for table, terms in ties)
            and all(worths[first] < worths[second] for first, second in less))


def fitting(book, question, worths):
    """The points that fit, of those that have only these worths."""
    return [point for point in product(worths, repeat=len(question[0])) if fits(book, question, point)]


def random_rows(chance, width, worths, most):
    """Some unlike rows in any order."""
    rows = {tuple(chance.choice(worths) for _ in range(width)) for _ in range(chance.randint(0, most))}
    return chance.sample(sorted(rows), len(rows))


def random_tables(chance, worths, most=36):
    return {name: (width, random_rows(chance, width, worths, most))
            for name, width in (("one", 1), ("edge", 2), ("arc", 2), ("tri", 3), ("quad", 4))}


def random_question(chance, tables, worths, most=4):
    """A question of at most so many names that fits tables told as {name: (width, rows)}."""
    names = tuple(chance.sample(["a", "b", "ca", "dog", "eeee", "x", "zz"], chance.randint(1, most)))
    while True:
        ties = []
        for _ in range(chance.randint(1, 4)):
            table = chance.choice(sorted(tables))
            terms = [chance.choice(worths) if chance.random() < 0.15 else chance.choice(names)
                     for _ in range(tables[table][0])]
            ties.append((table, tuple(terms)))
        if all(any(name in terms for _, terms in ties) for name in names):
            break
    less = [tuple(chance.sample(names, 2)) for _ in range(chance.choice([0, 0, 1, 2])) if len(names) > 1]
    return (names, chance.randint(1, len(names)), tuple(ties), tuple(less))


def random_deed(chance, book, worths, names=None):
    """A deed that the book doesn't refuse, on one of its tables, or of those of these names."""
    name = chance.choice(names or book.names())
    width, rows = book.width(name), book.rows(name)
    fresh = tuple(chance.choice(worths) for _ in range(width))
    word = chance.choice(["put", "put", "take", "take", "fill"])
    if word == "put" and fresh not in rows and len(rows) < 40:
        return ("put", name, fresh)
    if word == "take" and rows:
        return ("take", name, chance.choice(rows))
    return ("fill", name, random_rows(chance, width, worths, 8))


def let_rows(book, question, tie):
    """What a tie lets by, by [13]: from the rows of its table, each looked at by itself."""
    names, _, ties, _ = question
    table, terms = ties[tie]
    let = set()
    for row in book.rows(table):
        worths = {term: worth for term, worth in zip(terms, row) if isinstance(term, str)}
        if tuple(worths.get(term, term) for term in terms) == row:
            let.add(tuple(worths[name] for name in names if name in terms))
    return sorted(let)


def joined_by_hand(one, other):
    """The box that two boxes make, by [5] word for word, or None."""
    for at in range(len(one)):
        mine, its = one[at], other[at]
        if mine and its and mine[:-1] == its[:-1] and mine != its:
            if all(begins(a, b) or begins(b, a) for k, (a, b) in enumerate(zip(one, other)) if k != at):
                return tuple(mine[:-1] if k == at else max(a, b, key=len) for k, (a, b) in enumerate(zip(one, other)))
    return None


def is_plain_number(thing, most):
    return type(thing) is int and 0 <= thing < most


def is_own_box(question, thing):
    return type(thing) is tuple and len(thing) == len(question[0]) and all(
        type(part) is str and part in BEGINNINGS for part in thing)


def shown_box(question, point):
    many = question[1]
    return tuple(map(figures_by_hand, point[:many])) + ("",) * (len(point) - many)


def holding_box(book, question, let, paper, at, boxes):
    """The box of a step that holds by [14], else None; let is what each tie lets by, boxes those of the steps ahead."""
    names, _, ties, less = question
    match paper[at]:
        case ("empty", tie, box) if is_plain_number(tie, len(ties)) and is_own_box(question, box):
            own = [beginning for name, beginning in zip(names, box) if name in ties[tie][1]]
            return None if any(in_box(row, own) for row in let[tie]) else box
        case ("less", pair, box) if is_plain_number(pair, len(less)) and is_own_box(question, box):
            first, second = (under(box[names.index(name)]) for name in less[pair])
            return None if any(one < two for one in first for two in second) else box
        case ("told", point) if type(point) is tuple and len(point) == len(names) and all(
                is_plain_number(worth, 32) for worth in point):
            ahead = [step[1][:question[1]] for step in paper[:at] if is_told(question, step)]
            fine = fits(book, question, point) and point[:question[1]] not in ahead
            return shown_box(question, point) if fine else None
        case ("joined", one, other, box) if is_plain_number(one, at) and is_plain_number(other, at):
            if boxes[one] is None or boxes[other] is None or not is_own_box(question, box):
                return None
            return box if joined_by_hand(boxes[one], boxes[other]) == box else None
    return None


def is_told(question, step):
    return (type(step) is tuple and len(step) == 2 and step[0] == "told" and type(step[1]) is tuple
            and len(step[1]) == len(question[0]))


def boxes_by_hand(book, question, paper):
    """For each step its box where it holds, else None."""
    boxes = []
    let = [let_rows(book, question, tie) for tie in range(len(question[2]))]
    for at, step in enumerate(paper):
        # A pattern of a sequence takes lists too, and they are no steps.
        boxes.append(holding_box(book, question, let, paper, at, boxes) if type(step) is tuple else None)
    return boxes


def fault_by_hand(book, question, paper):
    boxes = boxes_by_hand(book, question, paper)
    if None in boxes:
        return boxes.index(None)
    return None if boxes and boxes[-1] == ("",) * len(question[0]) else len(paper)


def rows_let(book, question):
    """How many rows the ties let by together."""
    return sum(len(let_rows(book, question, tie)) for tie in range(len(question[2])))


def paper_cases(chance, count, most_names=5):
    """So many books and questions, with rows few enough for papers."""
    made = []
    while len(made) < count:
        worths = chance.sample(range(32), chance.choice([2, 3, 4, 6]))
        tables = random_tables(chance, worths, chance.choice([2, 6, 16]))
        book, question = book_of(tables), random_question(chance, tables, worths, most_names)
        if rows_let(book, question) <= 100:
            made.append((book, question, worths))
    return made
