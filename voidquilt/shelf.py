"""Boxes by number, kept so that one over another box is soon found among many."""


def beginnings_of(beginning):
    """The beginning itself and all that it begins with."""
    return [beginning[:count] for count in range(len(beginning) + 1)]


class Shelf:
    """Numbers of boxes of one room, in dicts within dicts: one depth for each place, by the beginning there."""

    def __init__(self):
        self.top = {}

    def lay(self, box, number):
        """Keep the number under the box, but where there is one."""
        inner = self.top
        for beginning in box[:-1]:
            inner = inner.setdefault(beginning, {})
        inner.setdefault(box[-1], number)

    def number_over(self, box):
        """The number of a box in which this one lies, or None where there is none."""
        reached = [self.top]
        for beginning in box:
            shorter = beginnings_of(beginning)
            reached = [inner[part] for inner in reached for part in shorter if part in inner]
            if not reached:
                return None
        return reached[0]
