"""Rooms of 1 to 5 places: their points and their boxes."""

from voidquilt.bits import FIGURES, WORTHS, brother, figures, is_beginning, is_worth
from voidquilt.errors import BadBox, BadPoint, Unlike

MOST_PLACES = 5


def is_places(thing):
    """Whether anything at all is a tuple with something for each place of a room."""
    return isinstance(thing, tuple) and 1 <= len(thing) <= MOST_PLACES


def is_box(thing):
    """Whether anything at all is a tuple with a beginning for each place of a room."""
    return is_places(thing) and all([is_beginning(part) for part in thing])


def is_point(thing):
    """Whether anything at all is a tuple with a worth for each place of a room."""
    return is_places(thing) and all([is_worth(part) for part in thing])


def need_box(box):
    if not is_box(box):
        raise BadBox()


def need_point(point):
    if not is_point(point):
        raise BadPoint()


def need_alike(one, other):
    """Refuse a box or a point with another count of places than the other one."""
    if len(one) != len(other):
        raise Unlike()


def need_boxes(one, other):
    need_box(one)
    need_box(other)
    need_alike(one, other)


def box_of(point):
    """The box that holds this point alone."""
    need_point(point)
    return tuple([figures(worth) for worth in point])


def volume(box):
    """How many points the box holds."""
    need_box(box)
    held = 1
    for beginning in box:
        held *= WORTHS >> len(beginning)
    return held


def holds(box, point):
    """Whether each worth of the point is under the box's beginning there."""
    need_box(box)
    need_point(point)
    need_alike(box, point)
    return all([figures(worth).startswith(beginning) for worth, beginning in zip(point, box)])


def within(one, other):
    """As lies_in, of two that are known to be boxes of one room."""
    return all([inner.startswith(outer) for inner, outer in zip(one, other)])


def lies_in(one, other):
    """Whether each beginning of one begins with the other one's there."""
    need_boxes(one, other)
    return within(one, other)


def longer(one, other):
    """The longer of two beginnings where it begins with the other one, else None."""
    if one.startswith(other):
        return one
    if other.startswith(one):
        return other
    return None


def longer_ones(one, other):
    """At each place of two boxes the longer beginning, or None where they part."""
    return [longer(mine, its) for mine, its in zip(one, other)]


def meet(one, other):
    """The box of the points that both boxes hold, or None where there are none."""
    need_boxes(one, other)
    made = longer_ones(one, other)
    if None in made:
        return None
    return tuple(made)


def joined(one, other):
    """The box that two boxes make by brothers at one place, or None."""
    need_boxes(one, other)
    made = longer_ones(one, other)
    if made.count(None) != 1:
        return None
    at = made.index(None)
    # Beginnings that part are never empty, so there is always a brother to ask for.
    if one[at] != brother(other[at]):
        return None
    made[at] = one[at][:-1]
    return tuple(made)


def halves(box):
    """The two halves of a box, or an empty list for the box of a point."""
    need_box(box)
    for at, beginning in enumerate(box):
        if len(beginning) < FIGURES:
            return [box[:at] + (beginning + sign,) + box[at + 1:] for sign in "01"]
    return []


def whole(many):
    """The box of a whole room of so many places."""
    return ("",) * many
