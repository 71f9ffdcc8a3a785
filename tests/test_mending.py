"""[17], [25] The steps that stand, papers mended, and keepers."""

import random
import unittest

from tests.helper import (book_of, boxes_by_hand, fault_by_hand, paper_cases, random_deed, rows_let, state_of)
from voidquilt.answers import plain
from voidquilt.book import Book
from voidquilt.errors import BadQuestion, NoTable, TooMany, Unfit
from voidquilt.mending import Keeper, mended, standing
from voidquilt.papers import answers_in, papered
from voidquilt.tongue import read_question

BOOK = {"edge": (2, [(1, 2), (2, 3), (2, 2), (5, 1), (3, 1)]), "mark": (1, [(7,), (2,), (1,)]), "none": (2, [])}
LETTERS = "find a b some c : edge(a,b), edge(b,c), mark(c), a < b"
WIDE = [(one, two) for one in range(8) for two in range(5)]


def asked(text, tables=None):
    return (book_of(BOOK if tables is None else tables), read_question(text))


def standing_by_hand(book, question, paper):
    return [at for at, box in enumerate(boxes_by_hand(book, question, paper)) if box is not None]


def led_over(paper, numbers):
    """The steps of these numbers, with the numbers within joined ones as they are among them."""
    steps = [paper[number] for number in numbers]
    return [step if step[0] != "joined" else
            ("joined", numbers.index(step[1]), numbers.index(step[2]), step[3]) for step in steps]


class MendingCase(unittest.TestCase):
    def need_mended(self, book, question, paper):
        """standing and mended as [17] says; the mended paper."""
        before, kept = state_of(book), list(paper)
        numbers = standing(book, question, paper)
        self.assertIs(type(numbers), list)
        self.assertEqual(numbers, standing_by_hand(book, question, paper))
        made = mended(book, question, paper)
        self.assertIs(type(made), list)
        self.assertEqual(made[:len(numbers)], led_over(paper, numbers))
        self.assertIsNone(fault_by_hand(book, question, made), question)
        self.assertEqual(answers_in(question, made), plain(book, question))
        if len(numbers) == len(paper) and fault_by_hand(book, question, paper) is None:
            self.assertEqual(made, paper)
        self.assertEqual(paper, kept)
        self.assertEqual(state_of(book), before)
        made.append(None)
        again = mended(book, question, paper)
        self.assertEqual(again, made[:-1])
        return again


class MendedTest(MendingCase):
    def test_where_all_stand_it_is_the_same(self):
        for text in ("find a : mark(a)", "find a b : edge(a,b)", LETTERS, "find a : none(a,a)"):
            book, question = asked(text)
            paper = papered(book, question)
            made = self.need_mended(book, question, paper)
            self.assertEqual(made, paper)
            self.assertIsNot(made, paper)
            self.assertEqual(standing(book, question, paper), list(range(len(paper))))

    def test_of_no_steps_it_is_made_anew(self):
        for text in ("find a : mark(a)", "find a b : edge(a,b)", LETTERS, "find a : none(a,a)"):
            book, question = asked(text)
            self.assertEqual(standing(book, question, []), [])
            self.need_mended(book, question, [])

    def test_where_none_stands(self):
        book, question = asked("find a : mark(a)", {"mark": (1, [])})
        paper = papered(book, question)
        self.assertEqual(paper, [("empty", 0, ("",))])
        book.put("mark", (3,))
        self.assertEqual(standing(book, question, paper), [])
        self.need_mended(book, question, paper)

    def test_told_by_hand(self):
        book, question = asked("find a : mark(a)", {"mark": (1, [(0,), (31,)])})
        paper = [("empty", 0, ("01",)), ("empty", 0, ("10",)), ("empty", 0, ("001",)), ("empty", 0, ("0001",)),
                 ("empty", 0, ("00001",)), ("told", (0,)), ("joined", 5, 4, ("0000",)), ("joined", 6, 3, ("000",)),
                 ("joined", 7, 2, ("00",)), ("joined", 8, 0, ("0",)), ("empty", 0, ("110",)), ("empty", 0, ("1110",)),
                 ("empty", 0, ("11110",)), ("told", (31,)), ("joined", 12, 13, ("1111",)), ("joined", 11, 14, ("111",)),
                 ("joined", 10, 15, ("11",)), ("joined", 1, 16, ("1",)), ("joined", 9, 17, ("",))]
        self.assertIsNone(fault_by_hand(book, question, paper))
        self.assertEqual(self.need_mended(book, question, paper), paper)
        book.put("mark", (1,))
        self.assertEqual(standing(book, question, paper), [0, 1, 2, 3, 5, 10, 11, 12, 13, 14, 15, 16, 17])
        made = self.need_mended(book, question, paper)
        self.assertEqual(made[9:13], [("joined", 7, 8, ("1111",)), ("joined", 6, 9, ("111",)),
                                      ("joined", 5, 10, ("11",)), ("joined", 1, 11, ("1",))])
        book.many([("take", "mark", (0,)), ("take", "mark", (31,))])
        self.assertEqual(standing(book, question, paper), [0, 1, 2, 3, 10, 11, 12])
        self.need_mended(book, question, paper)
        self.need_mended(book, question, made)
        book.fill("mark", [(4,)])
        self.assertEqual(standing(book, question, paper), [0, 1, 3, 4, 10, 11, 12])
        self.need_mended(book, question, paper)

    def test_told_steps_whose_hidden_worths_fit_no_more(self):
        book, question = asked("find a some b : edge(a,b)", {"edge": (2, [(1, 2), (1, 3)])})
        paper = papered(book, question)
        point = next(step[1] for step in paper if step[0] == "told")
        book.take("edge", point)
        made = self.need_mended(book, question, paper)
        self.assertEqual(answers_in(question, made), [(1,)])
        self.assertNotIn(("told", point), made)

    def test_papers_that_lack_their_end(self):
        book, question = asked("find a b : edge(a,b), a < b")
        paper = papered(book, question)
        for end in range(len(paper)):
            self.assertEqual(self.need_mended(book, question, paper[:end])[:end], paper[:end])

    def test_the_whole_box_ahead_of_other_steps(self):
        book, question = asked("find a b : edge(a,b), a < b")
        paper = papered(book, question)
        for more in ([paper[0]], [("less", 0, ("11", "01"))], [paper[-1], paper[0]]):
            self.need_mended(book, question, [*paper, *more])
        for more in ([paper[-1]], [paper[0], paper[-1]]):
            self.assertEqual(self.need_mended(book, question, [*paper, *more]), [*paper, *more])
        empty, question = asked("find a b : none(a,b)")
        self.need_mended(empty, question, [("empty", 0, ("", "")), ("empty", 0, ("0", ""))])
        twice = [("empty", 0, ("", "")), ("empty", 0, ("", ""))]
        self.assertEqual(self.need_mended(empty, question, twice), twice)

    def test_told_steps_with_the_box_of_one_ahead(self):
        book, question = asked("find a some b : edge(a,b)")
        for paper in ([("told", (2, 2)), ("told", (2, 3))], [("told", (2, 3)), ("told", (2, 3)), ("told", (1, 2))]):
            self.assertEqual(standing(book, question, paper), [0, 2][:len(paper) - 1])
            self.need_mended(book, question, paper)
        # By [14] any told step ahead counts, whether it holds or not.
        self.assertEqual(standing(book, question, [("told", (2, 9)), ("told", (2, 3)), ("told", (1, 2))]), [2])

    def test_joined_of_steps_that_do_not_stand(self):
        book, question = asked("find a : mark(a)", {"mark": (1, [])})
        paper = [("empty", 0, ("00",)), ("empty", 0, ("01",)), ("joined", 0, 1, ("0",)), ("empty", 0, ("1",)),
                 ("joined", 2, 3, ("",)), ("empty", 0, ("0",)), ("joined", 5, 3, ("",))]
        self.assertIsNone(fault_by_hand(book, question, paper))
        book.put("mark", (9,))
        self.assertEqual(standing(book, question, paper), [0, 3])
        book.fill("mark", [(16,)])
        self.assertEqual(standing(book, question, paper), [0, 1, 2, 5])
        self.need_mended(book, question, paper)

    def test_any_changes(self):
        chance = random.Random(171)
        partly = 0
        for book, question, worths in paper_cases(chance, 200):
            paper = papered(book, question)
            if len(paper) > 800:
                continue
            for _ in range(5):
                book.do(random_deed(chance, book, worths, [table for table, _ in question[2]]))
                if rows_let(book, question) > 100:
                    book.undo()
                partly += 0 < len(standing(book, question, paper)) < len(paper)
                paper = self.need_mended(book, question, paper)
        self.assertGreater(partly, 100)

    def test_too_many(self):
        book, question = asked("find a b : wide(a,b), wide(b,a), line(a)",
                               {"wide": (2, WIDE), "line": (1, [(worth,) for worth in range(20)])})
        paper = papered(book, question)
        book.put("line", (20,))
        before = state_of(book)
        for steps in (paper, [], paper[:3]):
            with self.assertRaises(TooMany) as caught:
                mended(book, question, steps)
            self.assertEqual(caught.exception.most, 100)
            self.assertEqual(standing(book, question, steps), standing_by_hand(book, question, steps))
        self.assertEqual(state_of(book), before)
        book.take("line", (20,))
        self.assertEqual(self.need_mended(book, question, paper), paper)

    def test_refusals(self):
        for thing in (None, 0, "", LETTERS, (), (("a",), 1, (), ()), (("a", "b"), 1, (("gone", ("a",)),), ())):
            for book in (Book(), book_of(BOOK)):
                for way in (standing, mended):
                    self.assertRaises(BadQuestion, way, book, thing, [])
                self.assertRaises(BadQuestion, Keeper, book, thing)
        book = book_of(BOOK)
        for way in (standing, mended, lambda book, question, paper: Keeper(book, question)):
            with self.assertRaises(NoTable) as caught:
                way(book, read_question("find a : mark(a,a), gone(a), lost(a)"), [])
            self.assertEqual(caught.exception.name, "gone")
            with self.assertRaises(Unfit) as caught:
                way(book, read_question("find a : mark(a), mark(a,a), edge(a)"), [])
            self.assertEqual(caught.exception.at, 1)

    def test_handed_in_by_name(self):
        book, question = asked(LETTERS)
        paper = papered(book, question)
        self.assertEqual(standing(paper=paper, question=question, book=book), list(range(len(paper))))
        self.assertEqual(mended(paper=paper, question=question, book=book), paper)
        self.assertEqual(Keeper(question=question, book=book).paper(), paper)


class KeeperTest(MendingCase):
    def need_kept(self, keeper, book, question, ahead):
        """The keeper's next paper, mended of the one ahead; asked, it is the same."""
        stood = keeper.stood()
        expected = len(standing_by_hand(book, question, ahead))
        self.assertEqual(keeper.stood(), stood)
        paper = keeper.paper()
        self.assertIs(type(paper), list)
        self.assertEqual(keeper.stood(), expected)
        self.assertIsNone(fault_by_hand(book, question, paper))
        self.assertEqual(paper, mended(book, question, ahead))
        self.assertEqual(answers_in(question, paper), plain(book, question))
        return paper

    def test_at_first(self):
        book, question = asked(LETTERS)
        keeper = Keeper(book, question)
        self.assertEqual(keeper.stood(), 0)
        paper = self.need_kept(keeper, book, question, [])
        self.assertEqual(keeper.stood(), 0)
        self.need_kept(keeper, book, question, paper)
        self.assertEqual(keeper.stood(), len(paper))

    def test_made_as_it_is_asked_first(self):
        book, question = asked("find a : mark(a)")
        keeper = Keeper(book, question)
        book.fill("mark", [(30,), (4,)])
        paper = self.need_kept(keeper, book, question, [])
        self.assertEqual(answers_in(question, paper), [(4,), (30,)])
        self.assertEqual(keeper.stood(), 0)

    def test_changes_of_the_book(self):
        book, question = asked("find a b : edge(a,b), mark(b)")
        keeper, paper = Keeper(book, question), []
        for deed in (("put", "edge", (9, 7)), ("take", "edge", (1, 2)), ("fill", "mark", [(3,)]), ("put", "mark", (1,)),
                     ("fill", "edge", []), ("fill", "edge", [(0, 1), (31, 3)]), ("make", "other", 3)):
            paper = self.need_kept(keeper, book, question, paper)
            book.do(deed)
        paper = self.need_kept(keeper, book, question, paper)
        while book.steps()[0] > 5:
            book.undo()
            paper = self.need_kept(keeper, book, question, paper)

    def test_changes_taken_back_and_another_in_their_place(self):
        book, question = asked("find a : mark(a)")
        keeper = Keeper(book, question)
        paper = self.need_kept(keeper, book, question, [])
        book.put("mark", (20,))
        book.undo()
        same = self.need_kept(keeper, book, question, paper)
        self.assertEqual((same, keeper.stood()), (paper, len(paper)))
        book.put("mark", (20,))
        book.undo()
        book.put("mark", (21,))
        other = self.need_kept(keeper, book, question, paper)
        self.assertEqual(answers_in(question, other), [(1,), (2,), (7,), (21,)])
        self.assertLess(keeper.stood(), len(paper))

    def test_told_papers_changed_behind(self):
        book, question = asked(LETTERS)
        keeper = Keeper(book, question)
        paper = keeper.paper()
        kept = list(paper)
        paper.clear()
        self.assertEqual(keeper.paper(), kept)
        self.assertEqual(keeper.stood(), len(kept))
        keeper.paper().append(None)
        keeper.paper()[0] = None
        self.assertEqual(keeper.paper(), kept)
        self.assertEqual(keeper.stood(), len(kept))

    def test_several_by_turns(self):
        chance = random.Random(251)
        for book, question, worths in paper_cases(chance, 12, 3):
            other = read_question("find a some b : edge(a,b), one(b)")
            questions = [question, question, other]
            keepers = [Keeper(book, each) for each in questions]
            papers = [[], [], []]
            for _ in range(12):
                turn = chance.randrange(3)
                papers[turn] = self.need_kept(keepers[turn], book, questions[turn], papers[turn])
                book.do(random_deed(chance, book, worths))
                if max(rows_let(book, question), rows_let(book, other)) > 100:
                    book.undo()

    def test_of_two_books(self):
        question = read_question("find a : mark(a)")
        one, other = book_of(BOOK), book_of(BOOK)
        first, second = Keeper(one, question), Keeper(other, question)
        self.assertEqual(first.paper(), second.paper())
        one.put("mark", (30,))
        self.assertEqual(answers_in(question, first.paper()), [(1,), (2,), (7,), (30,)])
        self.assertEqual(answers_in(question, second.paper()), [(1,), (2,), (7,)])
        twin = one.twin()
        twin.fill("mark", [])
        self.assertEqual(answers_in(question, first.paper()), [(1,), (2,), (7,), (30,)])

    def need_refused(self, keeper, error):
        stood = keeper.stood()
        for _ in range(2):
            with self.assertRaises(error) as caught:
                keeper.paper()
            self.assertIs(type(caught.exception), error)
            self.assertEqual(keeper.stood(), stood)
        return caught.exception

    def test_a_table_dropped_or_of_another_width_between(self):
        book, question = asked("find a b : edge(a,b), mark(a)")
        keeper, fresh = Keeper(book, question), Keeper(book, question)
        paper = self.need_kept(keeper, book, question, [])
        paper = self.need_kept(keeper, book, question, paper)
        book.drop("mark")
        self.assertEqual(self.need_refused(keeper, NoTable).name, "mark")
        self.assertEqual(self.need_refused(fresh, NoTable).name, "mark")
        book.make("mark", 2)
        self.assertEqual(self.need_refused(keeper, Unfit).at, 1)
        self.assertEqual(self.need_refused(fresh, Unfit).at, 1)
        self.assertRaises(Unfit, Keeper, book, question)
        book.many([("drop", "mark"), ("make", "mark", 1), ("fill", "mark", [(2,), (30,)])])
        self.need_kept(keeper, book, question, paper)
        self.assertEqual(self.need_kept(fresh, book, question, []), papered(book, question))

    def test_too_many(self):
        book, question = asked("find a b : wide(a,b), wide(b,a), line(a)",
                               {"wide": (2, WIDE), "line": (1, [(worth,) for worth in range(20)])})
        keeper = Keeper(book, question)
        paper = self.need_kept(keeper, book, question, [])
        paper = self.need_kept(keeper, book, question, paper)
        book.put("line", (20,))
        self.assertEqual(self.need_refused(keeper, TooMany).most, 100)
        self.assertEqual(keeper.stood(), len(paper))
        late = Keeper(book, question)
        self.assertEqual(self.need_refused(late, TooMany).most, 100)
        book.take("line", (3,))
        self.need_kept(keeper, book, question, paper)
        self.need_kept(late, book, question, [])
        book.drop("line")
        self.need_refused(keeper, NoTable)


if __name__ == "__main__":
    unittest.main()
