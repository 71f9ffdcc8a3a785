"""How many points can fit at the most: weights, packings, the measure and the worst rows."""

from voidquilt.bits import FIGURES, is_number
from voidquilt.corners import best_corner
from voidquilt.errors import BadPower
from voidquilt.ties import own_places
from voidquilt.tongue import need_question


def lowest(above, below):
    """The part in lowest terms."""
    greater, less = (above, below)
    while less != 0:
        greater, less = less, greater % less
    return (above // greater, below // greater)


def sum_of(parts):
    """(above, below) of all parts together, not in lowest terms."""
    above, below = (0, 1)
    for more, by in parts:
        above, below = above * by + more * below, below * by
    return (above, below)


def are_parts(parts, many):
    """Whether these are so many parts, none of them below 0."""
    return len(parts) == many and all([above >= 0 for above, below in parts])


def ties_places(question):
    """For each tie the places of its names."""
    return [own_places(question, tie) for tie in range(len(question[2]))]


def covers(question, weights):
    """Whether for each name the weights of the ties that have it come to 1 or more."""
    need_question(question)
    tied = ties_places(question)
    if not are_parts(weights, len(tied)):
        return False
    for at in range(len(question[0])):
        above, below = sum_of([weight for weight, places in zip(weights, tied) if at in places])
        if above < below:
            return False
    return True


def packs(question, packing):
    """Whether for each tie the parts of its names come to at most 1."""
    need_question(question)
    if not are_parts(packing, len(question[0])):
        return False
    for places in ties_places(question):
        above, below = sum_of([packing[at] for at in places])
        if above > below:
            return False
    return True


def weights(question):
    """Weights that cover, of the least sum."""
    need_question(question)
    tied = ties_places(question)
    many = len(question[0])
    corner = best_corner(tied, many)
    return [lowest(corner.goal[many + tie], corner.below) for tie in range(len(tied))]


def packing(question):
    """A packing that fits, of the greatest sum."""
    need_question(question)
    many = len(question[0])
    corner = best_corner(ties_places(question), many)
    return [lowest(corner.amount(at), corner.below) for at in range(many)]


def measure(question):
    """The least sum of weights that cover, and the greatest one of a packing that fits."""
    need_question(question)
    corner = best_corner(ties_places(question), len(question[0]))
    return lowest(corner.goal[-1], corner.below)


def rows_below(bounds):
    """The rising list of the rows whose worths are each less than the bound there."""
    rows = [()]
    for bound in bounds:
        rows = [row + (worth,) for row in rows for worth in range(bound)]
    return rows


def worst(question, packing, *, power=4):
    """For each tie its worst rows by a packing that fits."""
    need_question(question)
    if not is_number(power, 0, FIGURES + 1):
        raise BadPower()
    if any([above * power % below != 0 for above, below in packing]):
        raise BadPower()
    # So many of the last figures are free: the worths are those below two to this power.
    bounds = [1 << (above * power // below) for above, below in packing]
    return [rows_below([bounds[at] for at in places]) for places in ties_places(question)]
