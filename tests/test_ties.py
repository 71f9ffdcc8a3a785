"""[13] NoTable, Unfit, what a tie lets by; [10] the gaps of ties and pairs."""

import random
import unittest
from itertools import product

from tests.helper import book_of, figures_by_hand, in_box, random_question, random_tables, state_of
from voidquilt.book import Book
from voidquilt.errors import BadQuestion, NoTable, Unfit
from voidquilt.gaps import gap
from voidquilt.ties import lets_by, need_fit, own_names, pair_gap, tie_gap
from voidquilt.tongue import read_question

BOOK = {"edge": (2, [(1, 2), (2, 3), (2, 2), (5, 1)]), "tri": (3, [(1, 2, 1), (1, 2, 7), (4, 0, 4), (3, 3, 3)]),
        "mark": (1, [(7,), (9,)]), "none": (2, [])}
NO_QUESTIONS = [None, 0, "", "find a : mark(a)", (), (("a",), 1, (("mark", ("a",)),)), (("a",), 1, (), ()),
                (("a", "b"), 1, (("gone", ("a",)),), ()), (("a",), 2, (("gone", ("a", "a")),), ())]


def let_by_hand(book, question, tie):
    """What the tie lets by, looked for among all rows of the worths that there are."""
    names = own_names(question, tie)
    table, terms = question[2][tie]
    worths = sorted({worth for row in book.rows(table) for worth in row})
    let = []
    for row in product(worths, repeat=len(names)):
        given = dict(zip(names, row))
        if tuple(given.get(term, term) for term in terms) in book.rows(table):
            let.append(row)
    return let


class NeedFitTest(unittest.TestCase):
    def need_refused(self, book, text, error, field, value):
        question = read_question(text)
        point = (0,) * len(question[0])
        ways = [lambda: need_fit(book, question)]
        for tie in range(len(question[2])):
            ways += [lambda tie=tie: lets_by(book, question, tie), lambda tie=tie: tie_gap(book, question, tie, point)]
        before = state_of(book)
        for way in ways:
            with self.assertRaises(error) as caught:
                way()
            self.assertIs(type(caught.exception), error)
            self.assertEqual(getattr(caught.exception, field), value)
        self.assertEqual(state_of(book), before)

    def test_what_fits(self):
        for text in ("find a : mark(a)", "find a b some c : edge(a,b), tri(a,b,c), mark(7), none(0,a), a < b"):
            self.assertIsNone(need_fit(book_of(BOOK), read_question(text)))

    def test_no_table_for_the_first_tie_without_one(self):
        for text, name in (("find a : gone(a)", "gone"), ("find a : mark(a), gone(a), lost(a)", "gone"),
                           ("find a : lost(a), mark(a), gone(a)", "lost"), ("find a : a(a)", "a")):
            self.need_refused(book_of(BOOK), text, NoTable, "name", name)
        self.need_refused(Book(), "find a : mark(a)", NoTable, "name", "mark")

    def test_unfit_for_the_first_tie_of_another_count(self):
        for text, at in (("find a : mark(a,a)", 0), ("find a : edge(a)", 0), ("find a : edge(a,a,a)", 0),
                         ("find a : mark(a), edge(a,a), tri(a,a)", 2), ("find a : mark(a), edge(a), tri(a,a)", 1),
                         ("find a : mark(a), mark(3), mark(3,3)", 2), ("find a : none(a)", 0)):
            self.need_refused(book_of(BOOK), text, Unfit, "at", at)

    def test_no_table_goes_ahead_of_unfit(self):
        for text in ("find a : edge(a), gone(a)", "find a : gone(a), edge(a)", "find a : edge(a), mark(a,a), gone(a)"):
            self.need_refused(book_of(BOOK), text, NoTable, "name", "gone")

    def test_bad_question_goes_ahead_of_all(self):
        for book in (book_of(BOOK), Book()):
            for thing in NO_QUESTIONS:
                self.assertRaises(BadQuestion, need_fit, book, thing)
                self.assertRaises(BadQuestion, lets_by, book, thing, 0)
                self.assertRaises(BadQuestion, tie_gap, book, thing, 0, (0,))
                self.assertRaises(BadQuestion, own_names, thing, 0)
                self.assertRaises(BadQuestion, pair_gap, thing, 0, (0, 0))

    def test_the_book_is_asked_as_it_is(self):
        book, question = Book(), read_question("find a : mark(a)")
        self.assertRaises(NoTable, need_fit, book, question)
        book.make("mark", 2)
        self.assertRaises(Unfit, need_fit, book, question)
        book.many([("drop", "mark"), ("make", "mark", 1), ("put", "mark", (3,))])
        self.assertIsNone(need_fit(book, question))
        self.assertEqual(lets_by(book, question, 0), [(3,)])
        book.put("mark", (1,))
        self.assertEqual(lets_by(book, question, 0), [(1,), (3,)])

    def test_handed_in_by_name(self):
        question = read_question("find a b : edge(a,b), a < b")
        book = book_of(BOOK)
        self.assertIsNone(need_fit(question=question, book=book))
        self.assertEqual(lets_by(tie=0, question=question, book=book), sorted(BOOK["edge"][1]))
        self.assertEqual(own_names(tie=0, question=question), ("a", "b"))
        self.assertIsNone(tie_gap(point=(1, 2), tie=0, question=question, book=book))
        self.assertIsNone(pair_gap(point=(1, 2), pair=0, question=question))


class LetsByTest(unittest.TestCase):
    def need(self, text, tie, names, rows):
        question = read_question(text)
        self.assertEqual(own_names(question, tie), names)
        self.assertEqual(lets_by(book_of(BOOK), question, tie), rows)

    def test_told_ones(self):
        self.need("find a b : edge(a,b)", 0, ("a", "b"), [(1, 2), (2, 2), (2, 3), (5, 1)])
        self.need("find a b : edge(b,a)", 0, ("a", "b"), [(1, 5), (2, 1), (2, 2), (3, 2)])
        self.need("find a b : mark(a), edge(b,a)", 0, ("a",), [(7,), (9,)])
        self.need("find c a b : tri(a,b,c)", 0, ("c", "a", "b"), [(1, 1, 2), (3, 3, 3), (4, 4, 0), (7, 1, 2)])

    def test_names_twice(self):
        self.need("find a : edge(a,a)", 0, ("a",), [(2,)])
        self.need("find b a : tri(a,b,a)", 0, ("b", "a"), [(0, 4), (2, 1), (3, 3)])
        self.need("find a : tri(a,a,a)", 0, ("a",), [(3,)])

    def test_worths(self):
        self.need("find a : edge(2,a)", 0, ("a",), [(2,), (3,)])
        self.need("find a : edge(a,9)", 0, ("a",), [])
        self.need("find a b : tri(1,b,a)", 0, ("a", "b"), [(1, 2), (7, 2)])
        self.need("find a : tri(a,3,a)", 0, ("a",), [(3,)])

    def test_ties_without_names(self):
        self.need("find a : mark(a), mark(7)", 1, (), [()])
        self.need("find a : mark(a), mark(8)", 1, (), [])
        self.need("find a : mark(a), tri(4,0,4)", 1, (), [()])
        self.need("find a : mark(a), none(0,0)", 1, (), [])

    def test_of_no_rows(self):
        self.need("find a b : none(a,b)", 0, ("a", "b"), [])

    def test_told_lists_are_new_ones(self):
        book, question = book_of(BOOK), read_question("find a : mark(a), mark(7)")
        for tie in (0, 1):
            told = lets_by(book, question, tie)
            told.append(None)
            self.assertEqual(lets_by(book, question, tie), told[:-1])
        self.assertEqual(book.rows("mark"), [(7,), (9,)])

    def test_any_ties(self):
        chance = random.Random(131)
        for _ in range(150):
            tables = random_tables(chance, chance.sample(range(32), 4))
            book = book_of(tables)
            question = random_question(chance, tables, range(32))
            for tie, (_, terms) in enumerate(question[2]):
                self.assertEqual(own_names(question, tie), tuple(name for name in question[0] if name in terms))
                self.assertEqual(lets_by(book, question, tie), let_by_hand(book, question, tie))


class TieGapTest(unittest.TestCase):
    def test_told_ones(self):
        book = book_of(BOOK)
        question = read_question("find a b c : edge(c,a), mark(b)")
        # Let by are, for a and c: (1, 5), (2, 1), (2, 2), (3, 2).
        self.assertEqual(tie_gap(book, question, 0, (2, 30, 3)), ("00010", "", "00011"))
        self.assertEqual(tie_gap(book, question, 0, (2, 30, 16)), ("00010", "", "1"))
        self.assertEqual(tie_gap(book, question, 0, (4, 30, 2)), ("001", "", ""))
        self.assertIsNone(tie_gap(book, question, 0, (2, 30, 1)))
        self.assertEqual(tie_gap(book, question, 1, (2, 30, 1)), ("", "1", ""))
        self.assertIsNone(tie_gap(book, question, 1, (2, 9, 1)))

    def test_of_no_rows_the_whole_room(self):
        question = read_question("find a b c : none(b,a), mark(c)")
        self.assertEqual(tie_gap(book_of(BOOK), question, 0, (1, 2, 3)), ("", "", ""))

    def test_ties_without_names(self):
        book = book_of(BOOK)
        question = read_question("find a b : edge(a,b), mark(7), mark(8), none(1,1)")
        for point in ((1, 2), (0, 0), (31, 31)):
            self.assertIsNone(tie_gap(book, question, 1, point))
            self.assertEqual(tie_gap(book, question, 2, point), ("", ""))
            self.assertEqual(tie_gap(book, question, 3, point), ("", ""))

    def test_any_ties_and_points(self):
        chance = random.Random(132)
        for _ in range(150):
            worths = chance.sample(range(32), 4)
            tables = random_tables(chance, worths)
            book = book_of(tables)
            question = random_question(chance, tables, worths)
            names = question[0]
            for tie in range(len(question[2])):
                own = [names.index(name) for name in own_names(question, tie)]
                let = lets_by(book, question, tie)
                for _ in range(5):
                    point = tuple(chance.choice([*worths, chance.randrange(32)]) for _ in names)
                    self.need_gap(tie_gap(book, question, tie, point), point, own, let)

    def need_gap(self, told, point, own, let):
        mine = tuple(point[at] for at in own)
        if mine in let:
            self.assertIsNone(told)
            return
        self.assertTrue(in_box(point, told))
        self.assertEqual([told[at] for at in range(len(point)) if at not in own], [""] * (len(point) - len(own)))
        beginnings = tuple(told[at] for at in own)
        self.assertFalse(any(in_box(row, beginnings) for row in let))
        if own:
            self.assertEqual(beginnings, gap(let, mine))


class PairGapTest(unittest.TestCase):
    def test_told_ones(self):
        question = read_question("find a b c : tri(a,b,c), c < a, a < b")
        # 9 is 01001, 12 is 01100.
        self.assertEqual(pair_gap(question, 0, (9, 5, 12)), ("010", "", "011"))
        self.assertEqual(pair_gap(question, 0, (9, 5, 9)), ("01001", "", "01001"))
        self.assertEqual(pair_gap(question, 0, (0, 5, 31)), ("0", "", "1"))
        self.assertIsNone(pair_gap(question, 0, (12, 5, 9)))
        self.assertEqual(pair_gap(question, 1, (7, 6, 0)), ("00111", "00110", ""))
        self.assertIsNone(pair_gap(question, 1, (6, 7, 0)))

    def test_all_worths(self):
        for text, first, second in (("find a b : edge(a,b), a < b", 0, 1), ("find a b : edge(a,b), b < a", 1, 0)):
            question = read_question(text)
            for point in product(range(32), repeat=2):
                told = pair_gap(question, 0, point)
                if point[first] < point[second]:
                    self.assertIsNone(told)
                    continue
                mine, its = figures_by_hand(point[first]), figures_by_hand(point[second])
                count = next((at for at in range(5) if mine[at] != its[at]), 4) + 1
                self.assertEqual((told[first], told[second]), (mine[:count], its[:count]))
                self.assertTrue(in_box(point, told))

    def test_no_point_in_it_fits(self):
        question = read_question("find a b : edge(a,b), a < b")
        told = {pair_gap(question, 0, point) for point in product(range(32), repeat=2)} - {None}
        for box in told:
            for point in product(range(32), repeat=2):
                self.assertFalse(in_box(point, box) and point[0] < point[1], (box, point))


if __name__ == "__main__":
    unittest.main()
