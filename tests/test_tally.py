"""[23] Points counted name by name."""

import random
import time
import unittest
from itertools import permutations

from tests.helper import book_of, fitting, random_question, random_tables, state_of
from voidquilt.book import Book
from voidquilt.errors import BadOrder, BadQuestion, NoTable, Unfit
from voidquilt.tally import counted
from voidquilt.tongue import read_question

BOOK = {"edge": (2, [(1, 2), (2, 3), (2, 2), (5, 1), (3, 1)]), "mark": (1, [(7,), (2,), (1,)]), "none": (2, [])}
LETTERS = "find a b some c : edge(a,b), edge(b,c), mark(c), a < b"


def asked(text, tables=None):
    return (book_of(BOOK if tables is None else tables), read_question(text))


class CountedCase(unittest.TestCase):
    def need(self, book, question, expected):
        """So many are counted, in each order."""
        before = state_of(book)
        self.assertEqual(counted(book, question), expected, question)
        self.assertEqual(counted(book, question, order=None), expected)
        for order in permutations(question[0]):
            names = list(order)
            self.assertEqual(counted(book, question, order=names), expected, (question, order))
            self.assertEqual(names, list(order))
            self.assertEqual(counted(book, question, order=order), expected)
        self.assertEqual(state_of(book), before)

    def need_text(self, text, expected, tables=None):
        self.need(*asked(text, tables), expected)


class ToldTest(CountedCase):
    def test_ties(self):
        self.need_text("find a : mark(a)", 3)
        self.need_text("find a b : edge(a,b)", 5)
        self.need_text("find a b c : edge(a,b), edge(b,c)", 7)
        self.need_text("find a b c : edge(a,b), edge(b,c), edge(c,a)", 4)
        self.need_text("find a b : mark(a), mark(b)", 9)
        self.need_text("find a b : edge(a,b), edge(a,b), edge(a,b)", 5)

    def test_hidden_names_count_all_the_same(self):
        self.need_text("find a some b : edge(a,b)", 5)
        self.need_text("find a some b c : edge(a,b), edge(b,c)", 7)
        self.need_text("find a some b c : mark(a), mark(b), mark(c)", 27)

    def test_pairs(self):
        self.need_text("find a b : mark(a), mark(b), a < b", 3)
        self.need_text("find a b : edge(a,b), a < b", 2)
        self.need_text("find a b : edge(a,b), b < a, a < b", 0)
        self.need_text("find a b : edge(a,b), a < b, a < b", 2)
        self.need_text("find a b c : mark(a), mark(b), mark(c), a < b, b < c", 1)
        self.need_text("find a b c : mark(a), mark(b), mark(c), a < b, b < c, c < a", 0)
        self.need_text("find a b c d : mark(a), mark(b), mark(c), mark(d), a < b, c < d", 9)

    def test_worths_and_names_twice(self):
        self.need_text("find a : edge(2,a)", 2)
        self.need_text("find a : edge(a,a)", 1)
        self.need_text("find a : edge(a,9)", 0)

    def test_ties_without_names(self):
        self.need_text("find a : mark(a), mark(7)", 3)
        self.need_text("find a : mark(a), mark(8)", 0)
        self.need_text("find a b : mark(a), none(0,0), mark(b)", 0)

    def test_empty_tables(self):
        self.need_text("find a b : none(a,b)", 0)
        self.need_text("find a b c : mark(a), none(b,c)", 0)

    def test_any_questions(self):
        chance = random.Random(231)
        told = 0
        for _ in range(200):
            worths = chance.sample(range(32), chance.choice([2, 3, 4]))
            tables = random_tables(chance, worths, chance.choice([16, 36, 36]))
            book, question = book_of(tables), random_question(chance, tables, worths)
            many = len(fitting(book, question, worths))
            told += many
            self.need(book, question, many)
        self.assertGreater(told, 400)

    def test_five_names_and_six_ties(self):
        chance = random.Random(232)
        for _ in range(4):
            worths = [0, 13, 31]
            rows = [(one, two) for one in worths for two in worths if chance.random() < 0.8]
            book, question = asked("find a b c d e : e(a,b), e(b,c), e(c,d), e(d,e), e(e,a), e(a,c), a < d, b < e",
                                   {"e": (2, rows)})
            self.need(book, question, len(fitting(book, question, worths)))


class OrderTest(CountedCase):
    def test_bad_orders(self):
        book, question = asked(LETTERS)
        for order in ([], (), ["a"], ["a", "b"], ["a", "b", "c", "c"], ["a", "b", "b"], ["a", "a", "a"],
                      ["a", "b", "d"], ["a", "b", "C"], ["a", "b", ""], ["a", "b", "c", "d"], ("a", "b"),
                      ("a", "b", "c", "a"), ["a", "b", None], [None, None, None], [0, 1, 2], ["a", "b", 2],
                      ["a", "b", True], ["a", "b", ["c"]], ["a", "b", ("c",)], [["a", "b", "c"]], ["ab", "c", "a"],
                      ["abc"], ["a", "b", "c "], ["a", "b", b"c"], ["a", "b", {}], ["edge", "b", "c"], ["a"] * 200):
            kept = list(order)
            with self.assertRaises(BadOrder) as caught:
                counted(book, question, order=order)
            self.assertEqual(caught.exception.called, "BadOrder")
            self.assertEqual(list(order), kept)

    def test_other_refusals_go_ahead(self):
        book = book_of(BOOK)
        for order in (None, [], ["a"], ("b",), ["a", "a"]):
            self.assertRaises(BadQuestion, counted, book, None, order=order)
            self.assertRaises(BadQuestion, counted, Book(), (("a",), 2, (("gone", ("a",)),), ()), order=order)
            with self.assertRaises(NoTable) as caught:
                counted(book, read_question("find a : mark(a,a), gone(a), lost(a)"), order=order)
            self.assertEqual(caught.exception.name, "gone")
            with self.assertRaises(Unfit) as caught:
                counted(book, read_question("find a : mark(a), mark(a,a), edge(a)"), order=order)
            self.assertEqual(caught.exception.at, 1)

    def test_handed_in_by_name(self):
        book, question = asked(LETTERS)
        self.assertEqual(counted(order=["c", "a", "b"], question=question, book=book), counted(book, question))
        self.assertRaises(TypeError, counted, book, question, ["a", "b", "c"])


class SoonTest(CountedCase):
    def need_soon(self, text, expected, tables):
        began = time.perf_counter()
        book, question = asked(text, tables)
        for order in (None, list(question[0]), list(reversed(question[0])), [*question[0][2:], *question[0][:2]]):
            self.assertEqual(counted(book, question, order=order), expected, (text, order))
        self.assertLess(time.perf_counter() - began, 20)

    def test_many_points(self):
        every = {"all": (1, [(worth,) for worth in range(32)])}
        ties = "all(a), all(b), all(c), all(d), all(e)"
        self.need_soon("find a b c d e : " + ties, 32 ** 5, every)
        self.need_soon("find a some b c d e : " + ties + ", a < b", 32 ** 3 * 496, every)
        self.need_soon("find a b c d e : " + ties + ", a < b, b < c, c < d", 35960 * 32, every)
        self.need_soon("find a b c d e : " + ties + ", a < b, a < c, a < d",
                       sum((31 - worth) ** 3 for worth in range(32)) * 32, every)

    def test_stars_chains_and_rings(self):
        hub = {"e": (2, [(0, worth) for worth in range(32)] + [(worth, 0) for worth in range(1, 9)])}
        self.need_soon("find a b c d e : e(a,b), e(a,c), e(a,d), e(a,e)", 32 ** 4 + 8, hub)
        full = {"e": (2, [(one, two) for one in range(6) for two in range(6)])}
        self.need_soon("find a b c d e : e(a,b), e(b,c), e(c,d), e(d,e)", 6 ** 5, full)
        self.need_soon("find a b c d e : e(a,b), e(b,c), e(c,d), e(d,e), e(e,a)", 6 ** 5, full)
        self.need_soon("find a b c d e : e(a,b), e(a,c), e(a,d), e(a,e), e(b,c), e(d,e)", 6 ** 5, full)


if __name__ == "__main__":
    unittest.main()
