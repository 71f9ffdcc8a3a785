"""Papers mended for a book that has changed, and keepers of them."""

from voidquilt.papers import ground_for_paper
from voidquilt.quilting import Quilt
from voidquilt.steps import Judge, led_over
from voidquilt.ties import need_fit


def standing(book, question, paper):
    """The rising list of the numbers of the steps that stand for the book as it is now."""
    judge = Judge(book, question)
    numbers = []
    for at, step in enumerate(paper):
        if judge.passes(step):
            numbers.append(at)
    return numbers


def mended(book, question, paper):
    """A right paper that begins with the steps that stand."""
    ground = ground_for_paper(book, question)
    return Quilt(ground, led_over(paper, standing(book, question, paper))).finished()


class Keeper:
    """Has a right paper of the book as it is, each time it is asked."""

    def __init__(self, book, question):
        need_fit(book, question)
        self.book = book
        self.question = question
        self.kept = []
        self.stayed = 0

    def paper(self):
        """The paper, mended of the one ahead."""
        # A paper mended of no steps is one made anew, so the first one needs no way of its own.
        made = mended(self.book, self.question, self.kept)
        self.stayed = len(standing(self.book, self.question, self.kept))
        self.kept = made
        return list(made)

    def stood(self):
        """How many steps of the one ahead stood as the last paper was made."""
        return self.stayed
