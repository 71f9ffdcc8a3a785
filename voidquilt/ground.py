"""What a question's ties and pairs leave of its room, as a book has its tables."""

from voidquilt.bits import figures, span
from voidquilt.boxes import whole, within
from voidquilt.ties import lets_by, need_fit, own_places, pair_places, picked


def never_less(first, second):
    """Whether no worth under the first beginning is less than one under the second."""
    return span(first)[0] >= span(second)[1] - 1


class Ground:
    """The rows that the ties of a question let by, as figures, and where the names of ties and pairs stand."""

    def __init__(self, book, question):
        need_fit(book, question)
        ties = list(range(len(question[2])))
        self.question = question
        self.room = whole(len(question[0]))
        self.shown = question[1]
        self.tied = [own_places(question, tie) for tie in ties]
        self.let = [[tuple([figures(worth) for worth in row]) for row in lets_by(book, question, tie)] for tie in ties]
        self.pairs = pair_places(question)

    def is_empty(self, tie, box):
        """Whether no row that the tie lets by lies in the box's beginnings for its names."""
        own = picked(box, self.tied[tie])
        return not any([within(row, own) for row in self.let[tie]])

    def is_never_less(self, pair, box):
        """Whether at no point of the box the pair's first worth is less than the second one."""
        first, second = self.pairs[pair]
        return never_less(box[first], box[second])

    def fits(self, box):
        """Whether the point that this box holds alone fits."""
        if any([self.is_empty(tie, box) for tie in range(len(self.tied))]):
            return False
        return not any([self.is_never_less(pair, box) for pair in range(len(self.pairs))])
