"""[11] Answers, by going through rows and by walkers."""

import random
import time
import unittest
from itertools import product

from tests.helper import NO_POINTS, book_of, fitting, random_question, random_tables, state_of
from voidquilt.answers import after, leaps, plain
from voidquilt.book import Book
from voidquilt.errors import BadPoint, BadQuestion, NoTable, Unfit
from voidquilt.tongue import read_question

BOOK = {"edge": (2, [(1, 2), (2, 3), (2, 2), (5, 1), (3, 1)]), "mark": (1, [(7,), (2,), (1,)]), "none": (2, [])}


def asked(text, tables=None):
    return (book_of(BOOK if tables is None else tables), read_question(text))


def answers_by_hand(book, question, worths):
    return sorted({point[:question[1]] for point in fitting(book, question, worths)})


class AnswersCase(unittest.TestCase):
    def need(self, book, question, expected):
        """plain, leaps and after tell just these answers."""
        before = state_of(book)
        for ask in (plain, leaps):
            told = ask(book, question)
            self.assertIsInstance(told, list)
            self.assertEqual(told, expected, (ask, question))
        last = None
        for answer in [*expected, None]:
            told = after(book, question, last)
            self.assertEqual(told, answer)
            last = answer
        self.assertEqual(state_of(book), before)

    def need_text(self, text, expected):
        self.need(*asked(text), expected)


class ToldTest(AnswersCase):
    def test_one_tie(self):
        self.need_text("find a : mark(a)", [(1,), (2,), (7,)])
        self.need_text("find a b : edge(a,b)", [(1, 2), (2, 2), (2, 3), (3, 1), (5, 1)])
        self.need_text("find b a : edge(a,b)", [(1, 3), (1, 5), (2, 1), (2, 2), (3, 2)])

    def test_several_ties(self):
        self.need_text("find a b c : edge(a,b), edge(b,c)",
                       [(1, 2, 2), (1, 2, 3), (2, 2, 2), (2, 2, 3), (2, 3, 1), (3, 1, 2), (5, 1, 2)])
        self.need_text("find a b c : edge(a,b), edge(b,c), edge(c,a)", [(1, 2, 3), (2, 2, 2), (2, 3, 1), (3, 1, 2)])
        self.need_text("find a b : mark(a), mark(b)", [(one, two) for one in (1, 2, 7) for two in (1, 2, 7)])

    def test_hidden_names(self):
        self.need_text("find a some b : edge(a,b)", [(1,), (2,), (3,), (5,)])
        self.need_text("find b some a : edge(a,b)", [(1,), (2,), (3,)])
        self.need_text("find a some b c d : edge(a,b), edge(b,c), edge(c,d), mark(d)", [(1,), (2,), (3,), (5,)])
        self.need_text("find a some b c : mark(a), mark(b), edge(b,c), c < b", [])
        self.need_text("find c some b : mark(b), edge(c,b)", [(1,), (2,), (3,), (5,)])

    def test_pairs(self):
        self.need_text("find a b : edge(a,b), a < b", [(1, 2), (2, 3)])
        self.need_text("find a b : edge(a,b), b < a", [(3, 1), (5, 1)])
        self.need_text("find a b : edge(a,b), b < a, a < b", [])
        self.need_text("find a some b c : mark(a), mark(b), mark(c), a < b, b < c", [(1,)])
        self.need_text("find c some b a : mark(a), mark(b), mark(c), a < b, b < c", [(7,)])
        self.need_text("find a b c : mark(a), mark(b), mark(c), a < c, b < c, a < b", [(1, 2, 7)])

    def test_ties_twice_and_names_twice(self):
        self.need_text("find a : mark(a), mark(a), mark(a)", [(1,), (2,), (7,)])
        self.need_text("find a : edge(a,a)", [(2,)])
        self.need_text("find a b : edge(a,b), edge(a,b), edge(b,a)", [(2, 2)])

    def test_worths(self):
        self.need_text("find a : edge(2,a)", [(2,), (3,)])
        self.need_text("find a : edge(a,1), mark(7)", [(3,), (5,)])
        self.need_text("find a : edge(a,1), mark(6)", [])
        self.need_text("find a : mark(7), mark(a), edge(1,2), edge(5,1)", [(1,), (2,), (7,)])
        self.need_text("find a : edge(a,9)", [])

    def test_empty_tables(self):
        self.need_text("find a b : none(a,b)", [])
        self.need_text("find a some b : mark(a), none(b,b)", [])
        self.need_text("find a : mark(a), none(0,0)", [])

    def test_both_ends_of_the_worths(self):
        self.need(*asked("find a b : e(a,b)", {"e": (2, [(31, 31), (0, 0), (31, 0), (0, 31)])}),
                  [(0, 0), (0, 31), (31, 0), (31, 31)])


class AfterTest(AnswersCase):
    def need_all_lasts(self, text, tables, worths):
        """after of each tuple of the worths, answer or not."""
        book, question = asked(text, tables)
        told = plain(book, question)
        for last in product(worths, repeat=question[1]):
            expected = next((answer for answer in told if answer > last), None)
            self.assertEqual(after(book, question, last), expected, (text, last))

    def test_from_all_tuples(self):
        self.need_all_lasts("find a : mark(a)", BOOK, range(32))
        self.need_all_lasts("find a b : edge(a,b)", BOOK, [0, 1, 2, 3, 4, 5, 6, 30, 31])
        self.need_all_lasts("find a b some c : edge(a,b), edge(b,c), a < c", BOOK, [0, 1, 2, 3, 4, 5, 6, 31])
        self.need_all_lasts("find a b c : edge(a,b), edge(b,c)", BOOK, [0, 1, 2, 3, 4, 5, 31])
        ends = {"e": (2, [(31, 31), (0, 0), (31, 0), (0, 31), (16, 15)])}
        self.need_all_lasts("find a b : e(a,b)", ends, range(32))

    def test_from_none_and_at_both_ends(self):
        book, question = asked("find a b : edge(a,b)")
        self.assertEqual(after(book, question, None), (1, 2))
        self.assertEqual(after(book, question, (0, 0)), (1, 2))
        self.assertEqual(after(book, question, (1, 31)), (2, 2))
        self.assertEqual(after(book, question, (5, 0)), (5, 1))
        self.assertIsNone(after(book, question, (5, 1)))
        self.assertIsNone(after(book, question, (31, 31)))

    def test_bad_point(self):
        book, question = asked("find a b some c : edge(a,b), edge(b,c)")
        for last in NO_POINTS:
            if last is not None:
                self.assertRaises(BadPoint, after, book, question, last)
        for last in ((), (1,), (1, 2, 3), [1, 2], (1, 32), (-1, 2), (True, 2), (1, "2"), (1, None), (1, [2])):
            self.assertRaises(BadPoint, after, book, question, last)
        empty = asked("find a : none(a,a)")
        self.assertRaises(BadPoint, after, *empty, (1, 2))

    def test_refusals_in_their_order(self):
        book = book_of(BOOK)
        for last in (None, (3,), (3, 4), (True,), [3], "x"):
            self.assertRaises(BadQuestion, after, book, None, last)
            self.assertRaises(BadQuestion, after, book, (("a",), 2, (("gone", ("a",)),), ()), last)
            self.assertRaises(NoTable, after, book, read_question("find a : mark(a,a), gone(a)"), last)
            with self.assertRaises(Unfit) as caught:
                after(book, read_question("find a : mark(a), mark(a,a)"), last)
            self.assertEqual(caught.exception.at, 1)

    def test_plain_and_leaps_refuse_too(self):
        for ask in (plain, leaps):
            self.assertRaises(BadQuestion, ask, Book(), ("a",))
            self.assertRaises(BadQuestion, ask, Book(), "find a : mark(a)")
            with self.assertRaises(NoTable) as caught:
                ask(book_of(BOOK), read_question("find a : edge(a), lost(a), gone(a)"))
            self.assertEqual(caught.exception.name, "lost")
            with self.assertRaises(Unfit) as caught:
                ask(book_of(BOOK), read_question("find a : none(a,a), edge(a), mark(a,a)"))
            self.assertEqual(caught.exception.at, 1)


class AnyTest(AnswersCase):
    def test_any_questions(self):
        chance = random.Random(111)
        told = 0
        for number in range(300):
            worths = chance.sample(range(32), chance.choice([2, 3, 4]))
            tables = random_tables(chance, worths)
            if number % 7 == 0:
                tables["edge"] = (2, [])
            book, question = book_of(tables), random_question(chance, tables, worths)
            expected = answers_by_hand(book, question, worths)
            told += len(expected)
            self.need(book, question, expected)
            for _ in range(6):
                last = tuple(chance.choice([*worths, chance.randrange(32)]) for _ in range(question[1]))
                self.assertEqual(after(book, question, last), next((one for one in expected if one > last), None))
        self.assertGreater(told, 400)

    def test_five_names_and_six_ties(self):
        chance = random.Random(112)
        for many in range(1, 6):
            worths = [0, 13, 31]
            rows = [row for row in product(worths, repeat=2) if chance.random() < 0.7]
            book, question = asked("find a b c d e : e(a,b), e(b,c), e(c,d), e(d,e), e(e,a), e(a,c), a < d, b < e",
                                   {"e": (2, rows)})
            question = (question[0], many) + question[2:]
            self.need(book, question, answers_by_hand(book, question, worths))

    def test_told_lists_are_new_ones(self):
        book, question = asked("find a b : edge(a,b)")
        for ask in (plain, leaps):
            told = ask(book, question)
            told.clear()
            self.assertEqual(len(ask(book, question)), 5)
        self.assertEqual(len(book.rows("edge")), 5)

    def test_the_book_is_asked_as_it_is(self):
        book, question = asked("find a : mark(a)")
        self.need(book, question, [(1,), (2,), (7,)])
        book.fill("mark", [(9,), (4,)])
        self.need(book, question, [(4,), (9,)])
        book.undo()
        self.need(book, question, [(1,), (2,), (7,)])

    def test_hidden_names_are_not_gone_through_one_by_one(self):
        every = [(worth,) for worth in range(32)]
        tables = {"all": (1, every), "low": (1, every[:16]), "high": (1, every[16:])}
        began = time.perf_counter()
        self.need(*asked("find a some b c d e : all(a), all(b), all(c), all(d), low(e), high(e)", tables), [])
        self.need(*asked("find a some b c d e : all(a), all(b), all(c), all(d), all(e), a < b", tables), every[:-1])
        self.assertLess(time.perf_counter() - began, 20)

    def test_handed_in_by_name(self):
        book, question = asked("find a : mark(a)")
        self.assertEqual(plain(question=question, book=book), [(1,), (2,), (7,)])
        self.assertEqual(leaps(question=question, book=book), [(1,), (2,), (7,)])
        self.assertEqual(after(last=(2,), question=question, book=book), (7,))


if __name__ == "__main__":
    unittest.main()
