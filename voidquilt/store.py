"""Stores of the boxes of a room, and the least point that they leave bare."""

from voidquilt.bits import WORTHS, figures, span
from voidquilt.boxes import is_box, whole, within
from voidquilt.errors import BadBox


def ends(beginnings):
    """Nought and the worths next to the last one under each of the beginnings, rising."""
    found = {0}
    for beginning in beginnings:
        found.add(span(beginning)[1])
    found.discard(WORTHS)
    return sorted(found)


def least_bare(boxes, many, covered):
    """The least point of so many places that none of the boxes holds, or None.

    The boxes are rising and unlike. Those that were found to hold all are kept in covered.
    """
    if boxes and boxes[0] == whole(many):
        return None
    if many == 0:
        return ()
    asked = (many, tuple(boxes))
    if asked in covered:
        return None
    # Where no box ends, all that hold the worth ahead count on, so nothing becomes bare there.
    for worth in ends([box[0] for box in boxes]):
        own = figures(worth)
        behind = sorted({box[1:] for box in boxes if own.startswith(box[0])})
        point = least_bare(behind, many - 1, covered)
        if point is not None:
            return (worth,) + point
    covered[asked] = True
    return None


class Store:
    """Boxes of a room of so many places, in the order in which they were put in."""

    def __init__(self, many):
        self.places = many
        self.kept = []

    def need_own(self, box):
        if not is_box(box) or len(box) != self.places:
            raise BadBox()

    def put(self, box):
        """Put the box in, but where it lies in one that is there; whether it was put in."""
        if self.over(box) is not None:
            return False
        self.kept.append(box)
        return True

    def over(self, box):
        """The first of the boxes in which the box lies, or None."""
        self.need_own(box)
        for outer in self.kept:
            if within(box, outer):
                return outer
        return None

    def boxes(self):
        return list(self.kept)

    def bare(self):
        """The least point that none of the boxes holds, or None."""
        return least_bare(sorted(self.kept), self.places, {})

    def twin(self):
        other = Store(self.places)
        other.kept = list(self.kept)
        return other

    def __eq__(self, other):
        return isinstance(other, Store) and self.places == other.places and self.kept == other.kept

    def __len__(self):
        return len(self.kept)

    def __repr__(self):
        return f"Store({len(self.kept)} boxes)"
