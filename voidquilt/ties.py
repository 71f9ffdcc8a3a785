"""What the ties and pairs of a question let by, and the gaps that they leave."""

from voidquilt.bits import FIGURES, figures
from voidquilt.boxes import whole
from voidquilt.errors import Unfit
from voidquilt.gaps import gap
from voidquilt.tongue import need_question


def need_fit(book, question):
    """Refuse a question that the tables of the book don't fit."""
    need_question(question)
    ties = question[2]
    # All tables are asked for ahead of any count of terms, for NoTable goes ahead of Unfit.
    widths = [book.width(table) for table, terms in ties]
    for at, (table, terms) in enumerate(ties):
        if len(terms) != widths[at]:
            raise Unfit(at)


def picked(things, places):
    """Of things with one for each place, those at these places."""
    return tuple([things[at] for at in places])


def own_places(question, tie):
    """The places of the tie's own names among the question's, rising."""
    terms = question[2][tie][1]
    return [at for at, name in enumerate(question[0]) if name in terms]


def pair_places(question):
    """For each pair the places of its two names among the question's."""
    names = question[0]
    return [(names.index(first), names.index(second)) for first, second in question[3]]


def own_names(question, tie):
    """The names that stand in the tie, in the question's order."""
    need_question(question)
    return tuple([question[0][at] for at in own_places(question, tie)])


def own_worths(terms, row):
    """The worth that a row of the table has for each name of the terms, or None where it doesn't agree with them."""
    worths = {}
    for term, worth in zip(terms, row):
        wanted = worths.setdefault(term, worth) if isinstance(term, str) else term
        if wanted != worth:
            return None
    return worths


def lets_by(book, question, tie):
    """The rising list of the rows of its own names' worths that the tie lets by."""
    need_fit(book, question)
    table, terms = question[2][tie]
    names = own_names(question, tie)
    agreeing = [own_worths(terms, row) for row in book.rows(table)]
    return sorted([tuple([worths[name] for name in names]) for worths in agreeing if worths is not None])


def spread(question, places, box):
    """A box of the question's room with these beginnings at these places, and empty ones elsewhere."""
    wide = list(whole(len(question[0])))
    for at, beginning in zip(places, box):
        wide[at] = beginning
    return tuple(wide)


def tie_gap(book, question, tie, point):
    """The box about the point in which nothing lies that the tie lets by, or None where it lets the point by."""
    rows = lets_by(book, question, tie)
    places = own_places(question, tie)
    own = picked(point, places)
    if own in rows:
        return None
    # A tie without names has no point to find a gap about: it lets all by, or nothing.
    beginnings = gap(rows, own) if places else ()
    return spread(question, places, beginnings)


def pair_gap(question, pair, point):
    """The box about the point where no first worth is less than the second one, or None where it is less."""
    need_question(question)
    places = pair_places(question)[pair]
    first, second = picked(point, places)
    if first < second:
        return None
    mine = figures(first)
    its = figures(second)
    count = 0
    while count < FIGURES and mine[count] == its[count]:
        count += 1
    return spread(question, places, (mine[:count + 1], its[:count + 1]))
