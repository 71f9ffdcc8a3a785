"""[7] Tables and deeds, [8] rows of deeds, taking back and doing again, twins, equality; [2] of books."""

import random
import unittest

from tests.helper import NO_WORTHS, book_of, state_of
from voidquilt import book as module
from voidquilt.book import Book
from voidquilt.errors import (BadDeed, BadName, BadRow, BadWidth, Full, Missing, NoRow, NoTable, Nothing, QuiltError,
                              Taken, There)

NO_NAMES = ["", "find", "some", "abcdefghi", "a" * 400, "A", "aB", "a1", "1", "a b", " a", "a ", "a_b", "a-b", "a\n",
            "\u00e4", "a,", None, 0, 3, True, False, 1.5, b"edge", ["edge"], ("edge",), {}, {"edge": 1}, []]
NO_WIDTHS = [0, 5, -1, 6, 10 ** 29, -(10 ** 29), True, False, None, "2", "", 2.0, [2], (2,), {}]
# Rows that a table of width 2 can't have.
NO_ROWS = [None, 3, True, "34", b"34", [3, 4], [], {}, {3: 4}, (), (3,), (3, 4, 5), (3, 4, 5, 6), ((3, 4),), ([3, 4],),
           ([3], 4)] + [row for bad in NO_WORTHS for row in ((bad, 4), (3, bad))]
NO_DEEDS = [None, 0, 7, -1, True, False, 1.5, "", "make", "drop edge", b"drop", [], ["drop", "edge"],
            ["make", "new", 2], ["put", "edge", (9, 9)], {}, {"drop": "edge"}, {"drop"}, (), ("make",), ("drop",),
            ("put",), ("take",), ("fill",), ("make", "new"), ("make", "new", 2, 2), ("drop", "edge", "edge"),
            ("put", "edge"), ("put", "edge", (9, 9), (8, 8)), ("put", "edge", 9, 9), ("take", "edge"),
            ("take", "edge", (1, 2), (3, 4)), ("fill", "edge"), ("fill", "edge", (9, 9), (8, 8)), ("",), ("", "edge"),
            ("mend", "edge"), ("Drop", "edge"), ("drop ", "edge"), ("undo",), ("redo",), ("do", ("drop", "edge")),
            ("many", []), ("names",), ("rows", "edge"), (None, "edge"), (0, "edge"), (True, "edge"), (b"drop", "edge"),
            (["drop"], "edge"), (("drop",), "edge"), (["make"], "new", 2), ({}, "edge", (9, 9)),
            (("drop", "edge"),), (("drop", "edge"), ("drop", "arc")), ("edge", "drop")]


def small():
    return book_of({"edge": (2, [(3, 4), (1, 2)]), "arc": (1, [])})


def forty(width=2):
    return [(number,) + (7,) * (width - 1) for number in range(32)] + [(number,) + (9,) * (width - 1)
                                                                       for number in range(8)]


class BookCase(unittest.TestCase):
    def need_refused(self, book, deed, error, field=None):
        """The deed is refused by do, by its method and in a row of deeds, and nothing has changed."""
        before = state_of(book)
        ways = [lambda: book.do(deed), lambda: book.many([deed]), lambda: book.many((deed,))]
        if isinstance(deed, tuple) and error is not BadDeed:
            ways.append(lambda: getattr(book, deed[0])(*deed[1:]))
        for way in ways:
            with self.assertRaises(error) as caught:
                way()
            self.assertIs(type(caught.exception), error, deed)
            if field is not None:
                self.assertEqual(getattr(caught.exception, field[0]), field[1])
            self.assertEqual(state_of(book), before)

    def need_told(self, book, deed, told):
        """The deed tells this, by do and by its method, and makes the same of two twins."""
        twin = book.twin()
        if told is None:
            self.assertIsNone(book.do(deed))
            self.assertIsNone(getattr(twin, deed[0])(*deed[1:]))
        else:
            self.assertEqual(book.do(deed), told)
            self.assertEqual(getattr(twin, deed[0])(*deed[1:]), told)
        self.assertEqual(state_of(book), state_of(twin))


class DeedsTest(BookCase):
    def test_constants(self):
        self.assertEqual((module.MOST_TABLES, module.MOST_ROWS, module.MOST_WIDTH), (8, 40, 4))

    def test_a_new_book(self):
        self.assertEqual(state_of(Book()), ({}, 0, "Book(0 tables, 0 rows)", (0, 0)))
        self.assertEqual(Book().names(), [])

    def test_make(self):
        book = Book()
        self.need_told(book, ("make", "edge", 2), None)
        self.assertEqual(state_of(book), ({"edge": (2, [])}, 1, "Book(1 tables, 0 rows)", (1, 0)))
        self.need_told(book, ("make", "a", 1), None)
        self.need_told(book, ("make", "zzzzzzzz", 4), None)
        self.assertEqual(book.names(), ["a", "edge", "zzzzzzzz"])
        self.assertEqual([book.width(name) for name in book.names()], [1, 2, 4])
        self.assertEqual(book.steps(), (3, 0))

    def test_names_of_one_to_eight_letters(self):
        for count in range(1, 9):
            book = Book()
            book.make("z" * count, 1)
            self.assertEqual(book.names(), ["z" * count])
        for name in ("finds", "fin", "somes", "som", "xfind", "make", "width", "abcdefgh", "ijklmnop", "qrstuvwx", "yz"):
            book = Book()
            book.make(name, 1)
            self.assertEqual(book.names(), [name])

    def test_make_is_refused_in_order(self):
        book = small()
        for name in NO_NAMES:
            for width in (2, 0, None):
                self.need_refused(book, ("make", name, width), BadName)
        for width in [2, *NO_WIDTHS]:
            self.need_refused(book, ("make", "edge", width), Taken, ("name", "edge"))
        for width in NO_WIDTHS:
            self.need_refused(book, ("make", "new", width), BadWidth)

    def test_eight_tables(self):
        book = Book()
        for name in "abcdefgh":
            self.assertIsNone(book.make(name, 1))
        self.assertEqual((len(book), repr(book)), (8, "Book(8 tables, 0 rows)"))
        self.need_refused(book, ("make", "i", 1), Full, ("what", "tables"))
        for name in NO_NAMES:
            self.need_refused(book, ("make", name, 1), BadName)
        self.need_refused(book, ("make", "h", 1), Taken, ("name", "h"))
        for width in NO_WIDTHS:
            self.need_refused(book, ("make", "i", width), BadWidth)
        book.drop("c")
        self.assertIsNone(book.make("i", 1))
        self.assertEqual(book.names(), list("abdefghi"))

    def test_drop(self):
        book = small()
        self.need_told(book, ("drop", "edge"), None)
        self.assertEqual((book.names(), repr(book)), (["arc"], "Book(1 tables, 0 rows)"))
        self.need_refused(book, ("drop", "edge"), NoTable, ("name", "edge"))
        book.make("edge", 3)
        self.assertEqual((book.width("edge"), book.rows("edge")), (3, []))

    def test_no_table(self):
        book = small()
        for name in NO_NAMES + ["edges", "edg", "new"]:
            field = ("name", name)
            self.need_refused(book, ("drop", name), NoTable, field)
            for thing in ((1, 2), None, (True,)):
                self.need_refused(book, ("put", name, thing), NoTable, field)
                self.need_refused(book, ("take", name, thing), NoTable, field)
                self.need_refused(book, ("fill", name, thing), NoTable, field)
            for ask in (book.width, book.rows):
                with self.assertRaises(NoTable) as caught:
                    ask(name)
                self.assertEqual(caught.exception.name, name)

    def test_put_and_take(self):
        book = small()
        self.need_told(book, ("put", "edge", (0, 31)), 3)
        self.assertEqual(book.rows("edge"), [(0, 31), (1, 2), (3, 4)])
        self.assertEqual(repr(book), "Book(2 tables, 3 rows)")
        self.need_told(book, ("take", "edge", (1, 2)), 2)
        self.assertEqual(book.rows("edge"), [(0, 31), (3, 4)])
        self.need_told(book, ("put", "arc", (0,)), 1)
        self.need_told(book, ("take", "arc", (0,)), 0)
        self.assertEqual(book.rows("arc"), [])

    def test_put_and_take_are_refused_in_order(self):
        book = small()
        for row in NO_ROWS:
            self.need_refused(book, ("put", "edge", row), BadRow)
            self.need_refused(book, ("take", "edge", row), BadRow)
        self.need_refused(book, ("put", "edge", (1, 2)), There)
        self.need_refused(book, ("take", "edge", (2, 1)), NoRow, ("name", "edge"))
        self.need_refused(book, ("take", "arc", (2,)), NoRow, ("name", "arc"))

    def test_true_and_false_are_no_worths_even_where_alike_numbers_are(self):
        book = book_of({"edge": (2, [(0, 1)])})
        for row in ((False, True), (0, True), (False, 1)):
            for word in ("put", "take"):
                self.need_refused(book, (word, "edge", row), BadRow)
            self.need_refused(book, ("fill", "edge", [row]), BadRow)

    def test_forty_rows(self):
        book = Book()
        book.make("edge", 2)
        for count, row in enumerate(forty(), start=1):
            self.assertEqual(book.put("edge", row), count)
        self.assertEqual(repr(book), "Book(1 tables, 40 rows)")
        self.need_refused(book, ("put", "edge", (30, 30)), Full, ("what", "rows"))
        self.need_refused(book, ("put", "edge", (0, 7)), There)
        for row in NO_ROWS:
            self.need_refused(book, ("put", "edge", row), BadRow)
        self.assertEqual(book.take("edge", (0, 7)), 39)
        self.assertEqual(book.put("edge", (30, 30)), 40)
        self.assertEqual(book.rows("edge"), sorted(forty()[1:] + [(30, 30)]))

    def test_fill(self):
        for kind in (list, tuple):
            book = small()
            self.need_told(book, ("fill", "edge", kind([(9, 9), (0, 5), (9, 1)])), 3)
            self.assertEqual(book.rows("edge"), [(0, 5), (9, 1), (9, 9)])
            self.need_told(book, ("fill", "edge", kind([])), 0)
            self.assertEqual(book.rows("edge"), [])
            self.need_told(book, ("fill", "edge", kind(forty())), 40)
            self.assertEqual(book.rows("edge"), sorted(forty()))
            self.need_told(book, ("fill", "edge", kind(forty()[::-1])), 40)

    def test_fill_is_refused_in_order(self):
        book = small()
        much = forty() + [(30, 30), (30, 31)]
        for thing in (None, 3, True, "", "34", b"", {}, {(3, 4): 1}, {(3, 4)}):
            self.need_refused(book, ("fill", "edge", thing), BadRow)
        for kind in (list, tuple):
            for row in NO_ROWS:
                for rows in ([row], [row, (9, 9)], [(9, 9), row], [*much, row], [row, *much], [*much[:20], row, *much]):
                    self.need_refused(book, ("fill", "edge", kind(rows)), BadRow)
            for rows in ([(9, 9), (9, 9)], [(9, 9), (1, 2), (9, 9)], [*much, (30, 30)], much[:1] + much):
                self.need_refused(book, ("fill", "edge", kind(rows)), BadRow)
            self.need_refused(book, ("fill", "edge", kind(much)), Full, ("what", "rows"))
            self.need_refused(book, ("fill", "edge", kind(much[:41])), Full, ("what", "rows"))

    def test_rows_of_each_width(self):
        for width in range(1, 5):
            book = Book()
            book.make("edge", width)
            row = (5, 6, 7, 8)[:width]
            self.assertEqual(book.put("edge", row), 1)
            for other in range(5):
                if other != width:
                    self.need_refused(book, ("put", "edge", (5, 6, 7, 8)[:other]), BadRow)
                    self.need_refused(book, ("fill", "edge", [(5, 6, 7, 8)[:other]]), BadRow)

    def test_no_deeds(self):
        book = small()
        book.put("arc", (3,))
        book.undo()
        for thing in NO_DEEDS:
            self.need_refused(book, thing, BadDeed)
            before = state_of(book)
            for deeds in ([("drop", "edge"), thing], [thing, ("drop", "edge")],
                          [("put", "arc", (5,)), thing, ("drop", "none")]):
                self.assertRaises(BadDeed, book.many, deeds)
                self.assertRaises(BadDeed, book.many, tuple(deeds))
                self.assertEqual(state_of(book), before)

    def test_told_lists_are_new_ones(self):
        book = small()
        book.names().append("more")
        book.rows("edge").clear()
        self.assertEqual(state_of(book)[0], {"arc": (1, []), "edge": (2, [(1, 2), (3, 4)])})
        told = book.many([("put", "arc", (3,))])
        told.append(5)
        self.assertEqual(book.many([("put", "arc", (4,))]), [2])

    def test_handed_in_by_name(self):
        book = Book()
        book.make(width=2, name="edge")
        self.assertEqual(book.put(row=(1, 2), name="edge"), 1)
        self.assertEqual(book.fill(rows=[(1, 2), (3, 4)], name="edge"), 2)
        self.assertEqual(book.take(row=(1, 2), name="edge"), 1)
        self.assertEqual((book.width(name="edge"), book.rows(name="edge")), (2, [(3, 4)]))
        self.assertIsNone(book.do(deed=("drop", "edge")))
        self.assertEqual(book.many(deeds=[("make", "arc", 1)]), [None])
        self.assertIsNone(book.drop(name="arc"))


class ManyTest(BookCase):
    def test_what_each_tells(self):
        deeds = [("make", "edge", 2), ("put", "edge", (1, 2)), ("put", "edge", (0, 2)), ("take", "edge", (1, 2)),
                 ("fill", "edge", [(5, 5), (4, 4)]), ("make", "arc", 1), ("drop", "arc")]
        for kind in (list, tuple):
            book = Book()
            told = book.many(kind(deeds))
            self.assertIsInstance(told, list)
            self.assertEqual(told, [None, 1, 2, 1, 2, None, None])
            self.assertEqual(state_of(book), ({"edge": (2, [(4, 4), (5, 5)])}, 1, "Book(1 tables, 2 rows)", (1, 0)))
            book.undo()
            self.assertEqual(state_of(book), ({}, 0, "Book(0 tables, 0 rows)", (0, 1)))
            book.redo()
            self.assertEqual(state_of(book)[0], {"edge": (2, [(4, 4), (5, 5)])})

    def test_none_at_all_are_no_deed(self):
        book = small()
        book.undo()
        before = state_of(book)
        self.assertEqual([book.many([]), book.many(())], [[], []])
        self.assertEqual(state_of(book), before)
        book.redo()

    def test_all_or_none(self):
        good = [("put", "edge", (7, 7)), ("make", "new", 1), ("put", "new", (1,)), ("drop", "arc"),
                ("fill", "edge", [(8, 8)]), ("take", "edge", (8, 8))]
        bad = [(("put", "edge", 3), BadRow), (("drop", "none"), NoTable), (("make", "edge", 2), Taken), (None, BadDeed)]
        for kind in (list, tuple):
            for deed, error in bad:
                for at in range(len(good) + 1):
                    book = small()
                    book.put("edge", (0, 0))
                    book.undo()
                    before = state_of(book)
                    self.assertRaises(error, book.many, kind(good[:at] + [deed] + good[at:]))
                    self.assertEqual(state_of(book), before)
                    book.redo()
                    self.assertEqual(book.rows("edge"), [(0, 0), (1, 2), (3, 4)])

    def test_the_first_refusal_goes(self):
        book = small()
        for deeds, error in (([("drop", "none"), None], NoTable), ([None, ("drop", "none")], BadDeed),
                             ([("put", "edge", (1, 2)), ("make", "A", 1)], There)):
            self.assertRaises(error, book.many, deeds)

    def test_each_is_looked_at_on_what_those_ahead_made(self):
        book = small()
        self.assertRaises(NoTable, book.many, [("drop", "edge"), ("put", "edge", (5, 5))])
        self.assertRaises(There, book.many, [("put", "edge", (5, 5)), ("put", "edge", (5, 5))])
        self.assertRaises(BadRow, book.many, [("drop", "edge"), ("make", "edge", 1), ("put", "edge", (5, 5))])
        self.assertRaises(NoRow, book.many, [("take", "edge", (1, 2)), ("take", "edge", (1, 2))])
        self.assertRaises(Taken, book.many, [("make", "new", 1), ("make", "new", 1)])
        self.assertRaises(Full, book.many, [("make", name, 1) for name in "abcdefg"])
        self.assertEqual(book.many([("make", name, 1) for name in "abcdef"]), [None] * 6)
        self.assertEqual(book.many([("take", "edge", (1, 2)), ("put", "edge", (1, 2))]), [1, 2])

    def test_handed_lists_changed_behind(self):
        rows = [(5, 5), (6, 6)]
        deeds = [("fill", "edge", rows), ("put", "arc", (1,))]
        book = small()
        book.many(deeds)
        self.assertEqual(rows, [(5, 5), (6, 6)])
        self.assertEqual(deeds, [("fill", "edge", [(5, 5), (6, 6)]), ("put", "arc", (1,))])
        rows.clear()
        deeds.clear()
        self.assertEqual((book.rows("edge"), book.rows("arc")), ([(5, 5), (6, 6)], [(1,)]))
        book.undo()
        self.assertEqual((book.rows("edge"), book.rows("arc")), ([(1, 2), (3, 4)], []))
        book.redo()
        self.assertEqual((book.rows("edge"), book.rows("arc")), ([(5, 5), (6, 6)], [(1,)]))
        more = [(7, 7)]
        book.fill("edge", more)
        more.append((8, 8))
        book.undo()
        book.redo()
        self.assertEqual(book.rows("edge"), [(7, 7)])


class StepsTest(BookCase):
    def test_nothing(self):
        book = Book()
        self.assertRaises(Nothing, book.undo)
        self.assertRaises(Nothing, book.redo)
        book.make("edge", 2)
        self.assertRaises(Nothing, book.redo)
        self.assertIsNone(book.undo())
        self.assertRaises(Nothing, book.undo)
        self.assertEqual(book.steps(), (0, 1))
        self.assertIsNone(book.redo())
        self.assertRaises(Nothing, book.redo)
        self.assertEqual(book.steps(), (1, 0))

    def test_each_deed_is_taken_back_and_done_again(self):
        book = Book()
        deeds = [("make", "edge", 2), ("put", "edge", (1, 2)), ("fill", "edge", [(4, 4), (5, 5)]),
                 ("take", "edge", (4, 4)), ("drop", "edge"), ("make", "edge", 1)]
        seen = [state_of(book)[0]]
        for deed in deeds:
            book.do(deed)
            seen.append(state_of(book)[0])
        for back in range(len(deeds)):
            book.undo()
            self.assertEqual(state_of(book)[0], seen[-back - 2])
            self.assertEqual(book.steps(), (len(deeds) - back - 1, back + 1))
        for again in range(len(deeds)):
            book.redo()
            self.assertEqual(state_of(book)[0], seen[again + 1])
            self.assertEqual(book.steps(), (again + 1, len(deeds) - again - 1))

    def test_what_changes_nothing_is_a_step_too(self):
        book = small()
        back = book.steps()[0]
        self.assertEqual(book.fill("edge", [(1, 2), (3, 4)]), 2)
        self.assertEqual(book.steps(), (back + 1, 0))
        book.many([("put", "arc", (1,)), ("take", "arc", (1,))])
        self.assertEqual(book.steps(), (back + 2, 0))
        book.undo()
        book.undo()
        self.assertEqual(book.steps(), (back, 2))

    def test_redo_is_gone_behind_another_deed(self):
        for deed in (("put", "arc", (3,)), ("fill", "edge", [(1, 2), (3, 4)])):
            book = small()
            book.drop("edge")
            book.undo()
            book.do(deed)
            self.assertEqual(book.steps()[1], 0)
            self.assertRaises(Nothing, book.redo)

    def test_redo_stays_behind_a_refused_deed(self):
        book = small()
        book.drop("edge")
        book.undo()
        for refused in (("drop", "none"), ("put", "edge", (1, 2)), None):
            self.assertRaises((QuiltError, Missing), book.do, refused)
        book.redo()
        self.assertEqual(book.names(), ["arc"])


class TwinTest(BookCase):
    def test_a_twin_has_all(self):
        book = small()
        book.put("arc", (9,))
        book.undo()
        twin = book.twin()
        self.assertIsInstance(twin, Book)
        self.assertEqual(state_of(twin), state_of(book))
        self.assertIs(book == twin, True)
        twin.redo()
        self.assertEqual((twin.rows("arc"), book.rows("arc")), ([(9,)], []))
        while twin.steps()[0]:
            twin.undo()
        self.assertEqual((len(twin), len(book)), (0, 2))

    def test_each_goes_its_own_way(self):
        book = small()
        twin = book.twin()
        book.put("edge", (8, 8))
        self.assertEqual((twin.rows("edge"), twin.steps()), ([(1, 2), (3, 4)], (4, 0)))
        twin.drop("edge")
        self.assertEqual(book.rows("edge"), [(1, 2), (3, 4), (8, 8)])
        book.undo()
        twin.undo()
        self.assertEqual((book.steps(), twin.steps()), ((4, 1), (4, 1)))
        book.redo()
        twin.redo()
        self.assertEqual((book.names(), twin.names()), (["arc", "edge"], ["arc"]))
        book.undo()
        book.make("new", 1)
        twin.undo()
        twin.redo()
        self.assertEqual((book.steps(), twin.steps()), ((5, 0), (5, 0)))

    def test_books_made_apart(self):
        one, other = Book(), Book()
        one.make("edge", 2)
        self.assertEqual(state_of(other), ({}, 0, "Book(0 tables, 0 rows)", (0, 0)))


class EqualTest(BookCase):
    def need(self, one, other, equal):
        self.assertIs(one == other, equal)
        self.assertIs(other == one, equal)
        self.assertIs(one != other, not equal)
        self.assertIs(other != one, not equal)

    def test_equal_where_the_tables_are(self):
        self.need(Book(), Book(), True)
        one, other = small(), Book()
        other.many([("make", "new", 3), ("make", "arc", 1), ("make", "edge", 2), ("put", "edge", (3, 4))])
        self.need(one, other, False)
        other.put("edge", (1, 2))
        self.need(one, other, False)
        other.drop("new")
        self.need(one, other, True)
        self.assertNotEqual(one.steps(), other.steps())
        one.put("edge", (5, 5))
        self.need(one, other, False)
        one.undo()
        self.need(one, other, True)

    def test_names_widths_and_rows_count(self):
        self.need(book_of({"a": (1, [])}), book_of({"b": (1, [])}), False)
        self.need(book_of({"a": (1, [])}), book_of({"a": (2, [])}), False)
        self.need(book_of({"a": (1, [(1,)])}), book_of({"a": (1, [(2,)])}), False)
        self.need(book_of({"a": (1, [(1,)])}), book_of({"a": (1, [])}), False)
        self.need(book_of({"a": (1, [])}), Book(), False)
        self.need(book_of({"a": (1, [(1,), (2,)])}), book_of({"a": (1, [(2,), (1,)])}), True)

    def test_equal_to_nothing_else(self):
        for thing in (None, 0, False, "", "Book(0 tables, 0 rows)", [], (), {}, object(), {"edge": (2, ())}):
            self.need(Book(), thing, False)
            self.need(small(), thing, False)


def looked_up(tables, name):
    return tables.get(name) if isinstance(name, str) else None


def fine_row(row, width):
    return type(row) is tuple and len(row) == width and all(type(part) is int and 0 <= part <= 31 for part in row)


def by_hand(tables, deed):
    """What a good or bad deed tells of tables {name: (width, set of rows)}, and the tables then; or its refusal."""
    word, name, *more = deed
    if word == "make":
        width = more[0]
        if not (isinstance(name, str) and name.isascii() and name.isalpha() and name.islower() and len(name) <= 8
                and name not in ("find", "some")):
            return BadName, tables
        if name in tables:
            return Taken, tables
        if type(width) is not int or width not in (1, 2, 3, 4):
            return BadWidth, tables
        return (Full, tables) if len(tables) == 8 else (None, {**tables, name: (width, set())})
    if looked_up(tables, name) is None:
        return NoTable, tables
    if word == "drop":
        return None, {other: table for other, table in tables.items() if other != name}
    width, rows = tables[name]
    wanted = more[0] if word == "fill" else [more[0]]
    if type(wanted) not in (list, tuple) or not all(fine_row(row, width) for row in wanted):
        return BadRow, tables
    if len(set(wanted)) < len(wanted):
        return BadRow, tables
    behind = {"put": rows | set(wanted), "take": rows - set(wanted), "fill": set(wanted)}[word]
    if word != "fill" and behind == rows:
        return (There if word == "put" else NoRow), tables
    return (Full, tables) if len(behind) > 40 else (len(behind), {**tables, name: (width, behind)})


def random_deed(chance):
    name = chance.choice(["a", "b", "c", "d", "e", "f", "g", "h", "i", "find", "some", "A", "", None, 3])
    row = tuple(chance.randrange(7) for _ in range(chance.choice([1, 2, 2, 2, 3])))
    row = chance.choice([row] * 9 + [None, [1, 2], (1, 32), (True, 1)])
    rows = [tuple(chance.randrange(9) for _ in range(2)) for _ in range(chance.choice([0, 1, 3, 6, 60]))]
    rows = chance.choice([rows, tuple(rows), sorted(set(rows)), sorted(set(rows)) + [row]])
    word = chance.choice(["make", "make", "drop", "put", "put", "put", "put", "take", "take", "fill"])
    if word == "drop":
        return (word, name)
    return (word, name, {"make": chance.choice([1, 2, 2, 2, 2, 3, 4, 0, 5, True, None]), "fill": rows}.get(word, row))


class AnyDeedsTest(BookCase):
    def need_tables(self, book, tables):
        expected = {name: (width, sorted(rows)) for name, (width, rows) in tables.items()}
        rows = sum(len(rows) for _, rows in tables.values())
        self.assertEqual(state_of(book)[:3], (expected, len(tables), f"Book({len(tables)} tables, {rows} rows)"))

    def need_row_of_deeds(self, book, tables, deeds):
        """The tables behind these deeds, done by many; None where they are refused, or none at all."""
        told, made = [], tables
        for deed in deeds:
            answer, made = by_hand(made, deed)
            told.append(answer)
            if isinstance(answer, type):
                with self.assertRaises(answer):
                    book.many(deeds)
                return None
        self.assertEqual(book.many(deeds), told)
        return made if deeds else None

    def test_any_deeds(self):
        chance = random.Random(7)
        for _ in range(40):
            book, tables, past, future = Book(), {}, [], []
            for _ in range(60):
                move = chance.choice(["do", "do", "do", "do", "many", "undo", "redo"])
                if move in ("undo", "redo"):
                    source, target = (past, future) if move == "undo" else (future, past)
                    if source:
                        getattr(book, move)()
                        target.append(tables)
                        tables = source.pop()
                    else:
                        self.assertRaises(Nothing, getattr(book, move))
                else:
                    deeds = [random_deed(chance) for _ in range(1 if move == "do" else chance.randint(0, 3))]
                    made = self.need_row_of_deeds(book, tables, deeds)
                    if made is not None:
                        past.append(tables)
                        future.clear()
                        tables = made
                self.need_tables(book, tables)
                self.assertEqual(book.steps(), (len(past), len(future)))


if __name__ == "__main__":
    unittest.main()
