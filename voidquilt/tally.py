"""Points that fit, counted name by name without going through them."""

from voidquilt.bits import WORTHS
from voidquilt.errors import BadOrder
from voidquilt.ties import lets_by, need_fit, own_places, pair_places, picked


def need_order(question, order):
    """Refuse anything but a list or tuple of all names of the question, each once."""
    names = question[0]
    if not isinstance(order, (list, tuple)) or len(order) != len(names) or not all([name in order for name in names]):
        raise BadOrder()


def tie_tables(book, question):
    """For each tie (places, rows): how often each row of the worths of these places counts."""
    tables = []
    for tie in range(len(question[2])):
        rows = {row: 1 for row in lets_by(book, question, tie)}
        tables.append((own_places(question, tie), rows))
    return tables


def pair_tables(question):
    """For each pair such a table of all worths of its two names that fit."""
    rows = [(low, high) for high in range(WORTHS) for low in range(high)]
    return [(list(places), {row: 1 for row in rows}) for places in pair_places(question)]


def by_common(table, common):
    """The rows of a table by their worths at the common places: the rest of each and its count."""
    places, rows = table
    mine = [places.index(at) for at in common]
    rest = [spot for spot, at in enumerate(places) if at not in common]
    found = {}
    for row, count in rows.items():
        found.setdefault(picked(row, mine), []).append((picked(row, rest), count))
    return found


def brought_together(one, other):
    """The table of the places of both, with the rows that agree in the common ones."""
    places, rows = one
    common = [at for at in places if at in other[0]]
    spots = [places.index(at) for at in common]
    found = by_common(other, common)
    made = {}
    for row, count in rows.items():
        for rest, times in found.get(picked(row, spots), []):
            made[row + rest] = count * times
    return (places + [at for at in other[0] if at not in common], made)


def put_out(table, at):
    """The table without a place: rows that are alike else count together."""
    places, rows = table
    spot = places.index(at)
    made = {}
    for row, count in rows.items():
        rest = row[:spot] + row[spot + 1:]
        made[rest] = made.get(rest, 0) + count
    return (places[:spot] + places[spot + 1:], made)


def lies_within(table, places):
    return all([at in places for at in table[0]])


def taken_in(tables):
    """The tables, with each that has no place of its own brought together with one that has all of its places."""
    kept = []
    for table in sorted(tables, key=lambda each: -len(each[0])):
        wider = [spot for spot, other in enumerate(kept) if lies_within(table, other[0])]
        if wider:
            kept[wider[0]] = brought_together(kept[wider[0]], table)
        else:
            kept.append(table)
    return kept


def without_lone_places(tables):
    """The tables, with each place put out that only one of them has."""
    all_places = [at for places, rows in tables for at in places]
    left = []
    for table in tables:
        slim = table
        for at in table[0]:
            if all_places.count(at) == 1:
                slim = put_out(slim, at)
        left.append(slim)
    return left


def eased(tables):
    """The tables with all done for which none of them has to grow.

    No order of the names makes a difference to this, and a bad one may cost much without it.
    """
    before = None
    while before != [places for places, rows in tables]:
        before = [places for places, rows in tables]
        tables = without_lone_places(taken_in(tables))
    return tables


def without_place(tables, at):
    """The tables, with those that have a place brought together, and it put out."""
    together = ([], {(): 1})
    left = list(tables)
    while any([at in places for places, rows in left]):
        # One that lies within what is brought together can only lessen its rows, so it goes ahead.
        helping = [spot for spot, table in enumerate(left) if lies_within(table, together[0])]
        having = [spot for spot, table in enumerate(left) if at in table[0]]
        together = brought_together(together, left.pop((helping + having)[0]))
    return left + [put_out(together, at)]


def counted(book, question, *, order=None):
    """How many points fit."""
    need_fit(book, question)
    if order is not None:
        need_order(question, order)
    names = question[0]
    tables = eased(tie_tables(book, question) + pair_tables(question))
    for name in list(names if order is None else order):
        at = names.index(name)
        if any([at in places for places, rows in tables]):
            tables = eased(without_place(tables, at))
    product = 1
    for places, rows in tables:
        product *= rows.get((), 0)
    return product
