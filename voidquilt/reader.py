"""Readers: the answers of a question told one after the other, whatever becomes of the book."""

from voidquilt.answers import Search, after
from voidquilt.ties import need_fit


class Reader:
    """Tells answers, each greater than the one ahead, of the book as it is then."""

    def __init__(self, book, question):
        need_fit(book, question)
        self.book = book
        self.question = question
        self.heard = []

    def ahead(self):
        """The least answer greater than the last one told, or None."""
        answer = after(self.book, self.question, self.last())
        if answer is not None:
            self.heard.append(answer)
        return answer

    def last(self):
        return self.heard[-1] if self.heard else None

    def told(self):
        return list(self.heard)

    def answers_so_far(self):
        """The rising list of the answers of the book as it is that are not greater than the last one told."""
        search = Search(self.book, self.question)
        last = self.last()
        found = []
        answer = None if last is None else search.answer_behind(None)
        while answer is not None and answer <= last:
            found.append(answer)
            answer = search.answer_behind(answer)
        return found

    def gone(self):
        """The rising list of those told that are no answers now."""
        search = Search(self.book, self.question)
        return [answer for answer in self.heard if search.answer_from(answer) != answer]

    def missed(self):
        """The rising list of the answers that are not greater than the last one told and were never told."""
        heard = {answer: True for answer in self.heard}
        return [answer for answer in self.answers_so_far() if answer not in heard]

    def back(self):
        """To where it stood at its beginning."""
        self.heard = []

    def twin(self):
        other = Reader(self.book, self.question)
        other.heard = list(self.heard)
        return other
