"""Questions that hang as a tree, and ties lessened by one another."""

from voidquilt.ties import lets_by, need_fit, own_names, own_places, picked
from voidquilt.tongue import need_question


def common_names(names, left, tie):
    """Those of the tie's names that any other tie left has."""
    others = [other for other in left if other != tie]
    return [name for name in names[tie] if any([name in names[other] for other in others])]


def next_ear(names, left):
    """(tie, other or None): which of the ties left is taken off next, and off which one; None where none can be."""
    for tie in left:
        common = common_names(names, left, tie)
        if not common:
            return (tie, None)
        for other in left:
            if other != tie and all([name in names[other] for name in common]):
                return (tie, other)
    return None


def ears(question):
    """("tree", list) of the pairs in which all ties are taken off, or ("knot", list) of those left."""
    need_question(question)
    left = list(range(len(question[2])))
    names = [own_names(question, tie) for tie in left]
    taken = []
    while left:
        ear = next_ear(names, left)
        if ear is None:
            return ("knot", left)
        taken.append(ear)
        left.remove(ear[0])
    return ("tree", taken)


def agreeing(rows, places, others, other_places):
    """The rows that agree in the common names with one of the others."""
    common = [at for at in places if at in other_places]
    mine = [places.index(at) for at in common]
    its = [other_places.index(at) for at in common]
    there = {picked(row, its): True for row in others}
    return [row for row in rows if picked(row, mine) in there]


def lessened(book, question):
    """For each tie the rows that are left when those that agree with no row of some other tie are taken out."""
    need_fit(book, question)
    ties = list(range(len(question[2])))
    places = [own_places(question, tie) for tie in ties]
    left = [lets_by(book, question, tie) for tie in ties]
    before = None
    while left != before:
        before = list(left)
        for tie in ties:
            for other in ties:
                left[tie] = agreeing(left[tie], places[tie], left[other], places[other])
    return left
