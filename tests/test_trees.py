"""[19], [20] Ties taken off, trees and knots, ties lessened."""

import random
import unittest

from tests.helper import book_of, fitting, let_rows, random_question, random_tables, state_of
from voidquilt.book import Book
from voidquilt.errors import BadQuestion, NoTable, Unfit
from voidquilt.tongue import read_question
from voidquilt.trees import ears, lessened

LETTERS = "find a b some c : edge(a,b), edge(b,c), mark(c), a < b"


def names_of(question, tie):
    return {term for term in question[2][tie][1] if isinstance(term, str)}


def ears_by_hand(question):
    """By [19] word for word."""
    left = set(range(len(question[2])))
    taken = []
    while left:
        found = None
        for tie in sorted(left):
            others = sorted(left - {tie})
            shared = names_of(question, tie) & {name for one in others for name in names_of(question, one)}
            over = [one for one in others if shared <= names_of(question, one)]
            if not shared or over:
                found = (tie, over[0] if shared else None)
                break
        if found is None:
            return ("knot", sorted(left))
        taken.append(found)
        left.remove(found[0])
    return ("tree", taken)


def agree(question, tie, row, other, its):
    mine = dict(zip([name for name in question[0] if name in names_of(question, tie)], row))
    yours = dict(zip([name for name in question[0] if name in names_of(question, other)], its))
    return all(mine[name] == yours[name] for name in mine if name in yours)


def lessened_by_hand(book, question):
    """By [20] word for word: one row after the other is taken out, as long as there is one."""
    ties = range(len(question[2]))
    left = [let_rows(book, question, tie) for tie in ties]
    while True:
        out = next(((tie, row) for tie in ties for row in left[tie] for other in ties if other != tie
                    and not any(agree(question, tie, row, other, its) for its in left[other])), None)
        if out is None:
            return left
        left[out[0]].remove(out[1])


class EarsTest(unittest.TestCase):
    def need(self, text, *expected):
        question = read_question(text)
        told = ears(question)
        self.assertEqual(told, expected)
        self.assertIs(type(told), tuple)
        self.assertIs(type(told[1]), list)
        told[1].clear()
        self.assertEqual(ears(question), expected)

    def test_one_tie(self):
        self.need("find a : mark(a)", "tree", [(0, None)])
        self.need("find a b c : tri(a,b,c)", "tree", [(0, None)])

    def test_chains(self):
        self.need("find a b c : edge(a,b), edge(b,c)", "tree", [(0, 1), (1, None)])
        self.need("find a b c d : edge(a,b), edge(b,c), edge(c,d)", "tree", [(0, 1), (1, 2), (2, None)])
        # The middle one can't be taken off ahead of an end.
        self.need("find a b c d : edge(b,c), edge(a,b), edge(c,d)", "tree", [(1, 0), (0, 2), (2, None)])
        self.need("find a b c d e : edge(b,c), edge(c,d), edge(a,b), edge(d,e)", "tree",
                  [(2, 0), (0, 1), (1, 3), (3, None)])

    def test_stars(self):
        self.need("find a b c d : edge(a,b), edge(a,c), edge(a,d)", "tree", [(0, 1), (1, 2), (2, None)])
        self.need("find a b c d : tri(a,b,c), edge(a,d), mark(b), mark(c)", "tree", [(1, 0), (2, 0), (0, 3), (3, None)])
        self.need("find a b c : edge(a,b), edge(b,c), mark(b)", "tree", [(0, 1), (1, 2), (2, None)])

    def test_rings_are_knots(self):
        self.need("find a b c : edge(a,b), edge(b,c), edge(c,a)", "knot", [0, 1, 2])
        self.need("find a b c d : edge(a,b), edge(b,c), edge(c,d), edge(d,a)", "knot", [0, 1, 2, 3])
        self.need("find a b c d e : edge(a,b), edge(b,c), edge(c,d), edge(d,e), edge(e,a)", "knot", [0, 1, 2, 3, 4])
        self.need("find a b c d : tri(a,b,c), tri(b,c,d), tri(c,d,a), tri(d,a,b)", "knot", [0, 1, 2, 3])

    def test_rings_with_more_about_them(self):
        self.need("find a b c d : mark(d), edge(a,b), edge(b,c), edge(d,c), edge(c,a)", "knot", [1, 2, 4])
        self.need("find a b c : mark(a), edge(a,b), mark(7), edge(b,c), mark(c), edge(c,a)", "knot", [1, 3, 5])
        self.need("find a b c : edge(a,b), edge(b,c), edge(c,a), tri(a,b,c)", "tree",
                  [(0, 3), (1, 3), (2, 3), (3, None)])

    def test_ties_twice(self):
        self.need("find a b : edge(a,b), edge(a,b)", "tree", [(0, 1), (1, None)])
        self.need("find a b : edge(a,b), edge(b,a), edge(a,b)", "tree", [(0, 1), (1, 2), (2, None)])
        self.need("find a b c : edge(a,b), edge(b,c), edge(c,a), edge(a,b)", "knot", [1, 2, 3])

    def test_ties_without_names_and_names_that_no_other_has(self):
        self.need("find a : mark(7), mark(a), edge(1,2)", "tree", [(0, None), (1, None), (2, None)])
        self.need("find a b : mark(a), mark(b)", "tree", [(0, None), (1, None)])
        self.need("find a b c d : edge(a,b), edge(c,d), mark(a)", "tree", [(0, 2), (1, None), (2, None)])
        self.need("find a b c : edge(a,b), edge(b,c), edge(c,a), mark(0)", "knot", [0, 1, 2])

    def test_pairs_have_no_part_in_it(self):
        self.need("find a b c : edge(a,b), edge(b,c), a < c, c < a", "tree", [(0, 1), (1, None)])

    def test_names_and_worths_twice_in_a_tie(self):
        self.need("find a b : quad(a,a,b,7), edge(b,b)", "tree", [(0, 1), (1, None)])

    def test_any_questions(self):
        chance = random.Random(191)
        found = {"tree": 0, "knot": 0}
        tables = {"one": (1, []), "edge": (2, []), "tri": (3, []), "quad": (4, [])}
        for _ in range(1500):
            question = random_question(chance, tables, range(32), 5)
            more = [(table, tuple(chance.choice([*question[0], 7]) for _ in range(tables[table][0])))
                    for table in chance.choices(["one", "edge", "edge"], k=chance.randint(0, 6 - len(question[2])))]
            ties = [*question[2], *more]
            chance.shuffle(ties)
            question = (question[0], question[1], tuple(ties), question[3])
            told = ears(question)
            self.assertEqual(told, ears_by_hand(question), question)
            found[told[0]] += 1
        self.assertGreater(min(found.values()), 100)

    def test_refusals_and_handing_in_by_name(self):
        for thing in (None, 0, "", LETTERS, (), (("a",), 1, (), ()), (("a", "b"), 1, (("gone", ("a",)),), ())):
            self.assertRaises(BadQuestion, ears, thing)
            self.assertRaises(BadQuestion, lessened, Book(), thing)
        question = read_question(LETTERS)
        self.assertEqual(ears(question=question), ears(question))


class LessenedTest(unittest.TestCase):
    def need(self, text, tables, expected):
        book, question = book_of(tables), read_question(text)
        before = state_of(book)
        told = lessened(book, question)
        self.assertEqual(told, expected)
        self.assertEqual(lessened_by_hand(book, question), expected)
        for rows in told:
            rows.append(None)
        told.clear()
        self.assertEqual(lessened(book, question), expected)
        self.assertEqual(state_of(book), before)

    def test_told_ones(self):
        self.need("find a b c : p(a,b), q(b,c)", {"p": (2, [(1, 2), (3, 4)]), "q": (2, [(2, 5), (2, 6), (9, 9)])},
                  [[(1, 2)], [(2, 5), (2, 6)]])
        self.need("find a b c : q(b,c), p(a,b)", {"p": (2, [(1, 2), (3, 4)]), "q": (2, [(2, 5), (2, 6), (9, 9)])},
                  [[(2, 5), (2, 6)], [(1, 2)]])

    def test_one_tie_stays_as_it_is(self):
        self.need("find b a : p(a,b)", {"p": (2, [(1, 2), (3, 0)])}, [[(0, 3), (2, 1)]])

    def test_ties_without_common_names(self):
        tables = {"p": (1, [(1,), (2,)]), "q": (1, [(3,)]), "none": (1, [])}
        self.need("find a b : p(a), q(b)", tables, [[(1,), (2,)], [(3,)]])
        self.need("find a b : p(a), none(b)", tables, [[], []])
        self.need("find a b c : p(a), q(b), none(c)", tables, [[], [], []])

    def test_ties_without_names(self):
        tables = {"p": (1, [(1,), (2,)]), "q": (1, [(3,)])}
        self.need("find a : p(a), q(3)", tables, [[(1,), (2,)], [()]])
        self.need("find a : p(a), q(4)", tables, [[], []])
        self.need("find a : q(3), p(a), p(2)", tables, [[()], [(1,), (2,)], [()]])
        self.need("find a : q(a), p(1), p(3)", tables, [[], [], []])

    def test_long_chains_of_takings_out(self):
        steps = {"p": (2, [(at, at + 1) for at in range(20)]), "end": (1, [(9,)])}
        self.need("find a b : p(a,b), p(b,a)", steps, [[], []])
        self.need("find a b c d e : p(a,b), p(b,c), p(c,d), p(d,e), end(e)", steps,
                  [[(5, 6)], [(6, 7)], [(7, 8)], [(8, 9)], [(9,)]])
        # One row too few goes through the whole ring, over and over.
        ring = {"p": (2, [(at, at + 1) for at in range(31)]), "q": (2, [(at, at) for at in range(32)])}
        self.need("find a b c : p(a,b), q(b,c), q(c,a)", ring, [[], [], []])

    def test_a_knot_may_keep_rows_of_no_point(self):
        self.need("find a b c : p(a,b), p(b,c), p(c,a)", {"p": (2, [(0, 1), (1, 0)])},
                  [[(0, 1), (1, 0)]] * 3)

    def test_pairs_take_nothing_out(self):
        self.need("find a b : p(a,b), a < b", {"p": (2, [(0, 1), (1, 0)])}, [[(0, 1), (1, 0)]])

    def test_lists_within_are_not_the_same_one(self):
        book, question = book_of({"p": (1, [(1,)])}), read_question("find a : p(a), p(a)")
        told = lessened(book, question)
        told[0].append(None)
        self.assertEqual(told[1], [(1,)])
        self.assertEqual(book.rows("p"), [(1,)])

    def test_any_questions(self):
        chance = random.Random(201)
        trees = 0
        for _ in range(250):
            worths = chance.sample(range(32), chance.choice([2, 3, 4]))
            tables = random_tables(chance, worths, chance.choice([3, 8, 20]))
            book, question = book_of(tables), random_question(chance, tables, worths)
            told = lessened(book, question)
            self.assertEqual(told, lessened_by_hand(book, question), question)
            points = fitting(book, question, worths)
            hangs = ears(question)[0] == "tree" and not question[3]
            trees += hangs and bool(points)
            for tie, rows in enumerate(told):
                places = [at for at, name in enumerate(question[0]) if name in names_of(question, tie)]
                needed = {tuple(point[at] for at in places) for point in points}
                self.assertEqual(needed - set(rows), set())
                if hangs:
                    self.assertEqual(set(rows), needed)
        self.assertGreater(trees, 20)

    def test_refusals_and_handing_in_by_name(self):
        book = book_of({"mark": (1, [(3,)]), "edge": (2, [])})
        with self.assertRaises(NoTable) as caught:
            lessened(book, read_question("find a : mark(a,a), gone(a), lost(a)"))
        self.assertEqual(caught.exception.name, "gone")
        with self.assertRaises(Unfit) as caught:
            lessened(book, read_question("find a : mark(a), mark(a,a), edge(a)"))
        self.assertEqual(caught.exception.at, 1)
        self.assertEqual(lessened(question=read_question("find a : mark(a)"), book=book), [[(3,)]])


if __name__ == "__main__":
    unittest.main()
