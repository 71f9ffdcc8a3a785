"""[24] Readers."""

import random
import time
import unittest

from tests.helper import book_of, random_deed, random_question, random_tables, state_of
from voidquilt.answers import plain
from voidquilt.book import Book
from voidquilt.errors import BadQuestion, NoTable, Unfit
from voidquilt.reader import Reader
from voidquilt.tongue import read_question

BOOK = {"edge": (2, [(1, 2), (2, 3), (2, 2), (5, 1), (3, 1)]), "mark": (1, [(7,), (2,), (1,)]), "none": (2, [])}
LETTERS = "find a b some c : edge(a,b), edge(b,c), mark(c), a < b"


def asked(text, tables=None):
    return (book_of(BOOK if tables is None else tables), read_question(text))


class ReaderCase(unittest.TestCase):
    def need_state(self, reader, book, question, told):
        """All that the reader tells, by [24] word for word, of one that told these."""
        before = state_of(book)
        answers = plain(book, question)
        self.assertEqual(reader.told(), told)
        self.assertEqual(reader.last(), told[-1] if told else None)
        self.assertEqual(reader.gone(), sorted(answer for answer in told if answer not in answers))
        self.assertEqual(reader.missed(), [answer for answer in answers
                                           if told and answer <= told[-1] and answer not in told])
        for ask in (reader.told, reader.gone, reader.missed):
            self.assertIs(type(ask()), list)
        self.assertEqual(state_of(book), before)

    def go_on(self, reader, book, question, told):
        """Ask for the next answer; the list of those told then."""
        expected = next((answer for answer in plain(book, question) if not told or answer > told[-1]), None)
        self.assertEqual(reader.ahead(), expected)
        return told if expected is None else [*told, expected]


class ToldTest(ReaderCase):
    def test_one_after_the_other(self):
        for text in ("find a : mark(a)", "find a b : edge(a,b)", "find a some b : edge(a,b)", LETTERS,
                     "find a b : none(a,b)", "find a b c : edge(a,b), edge(b,c), edge(c,a)"):
            book, question = asked(text)
            reader, told = Reader(book, question), []
            self.need_state(reader, book, question, told)
            for _ in range(len(plain(book, question)) + 3):
                told = self.go_on(reader, book, question, told)
                self.need_state(reader, book, question, told)
            self.assertEqual(told, plain(book, question))
            self.assertIsNone(reader.ahead())
            self.assertEqual(reader.last(), told[-1] if told else None)

    def test_nothing_told(self):
        book, question = asked("find a : mark(a)")
        reader = Reader(book, question)
        self.assertEqual((reader.last(), reader.told(), reader.gone(), reader.missed()), (None, [], [], []))

    def test_changes_of_the_book(self):
        book, question = asked("find a : mark(a)")
        reader = Reader(book, question)
        self.assertEqual(reader.ahead(), (1,))
        book.many([("put", "mark", (0,)), ("put", "mark", (3,)), ("take", "mark", (2,))])
        self.assertEqual((reader.ahead(), reader.missed(), reader.gone()), ((3,), [(0,)], []))
        book.take("mark", (1,))
        self.assertEqual((reader.gone(), reader.told(), reader.last()), ([(1,)], [(1,), (3,)], (3,)))
        book.put("mark", (2,))
        self.assertEqual((reader.missed(), reader.gone()), ([(0,), (2,)], [(1,)]))
        book.take("mark", (3,))
        self.assertEqual((reader.last(), reader.gone(), reader.missed()), ((3,), [(1,), (3,)], [(0,), (2,)]))
        self.assertEqual([reader.ahead(), reader.ahead(), reader.ahead()], [(7,), None, None])
        book.put("mark", (31,))
        self.assertEqual([reader.ahead(), reader.ahead()], [(31,), None])
        book.put("mark", (30,))
        self.assertEqual((reader.ahead(), reader.missed()), (None, [(0,), (2,), (30,)]))
        book.fill("mark", [])
        self.assertEqual((reader.ahead(), reader.missed(), reader.gone()), (None, [], [(1,), (3,), (7,), (31,)]))

    def test_takings_back(self):
        book, question = asked("find a : mark(a)")
        reader = Reader(book, question)
        reader.ahead()
        book.fill("mark", [(5,)])
        self.assertEqual((reader.ahead(), reader.gone()), ((5,), [(1,)]))
        book.undo()
        self.assertEqual((reader.gone(), reader.missed(), reader.ahead()), ([(5,)], [(2,)], (7,)))
        book.redo()
        self.assertEqual((reader.gone(), reader.missed(), reader.told()), ([(1,), (7,)], [], [(1,), (5,), (7,)]))

    def test_back(self):
        book, question = asked("find a : mark(a)")
        reader = Reader(book, question)
        reader.ahead()
        reader.ahead()
        book.put("mark", (0,))
        self.assertIsNone(reader.back())
        self.need_state(reader, book, question, [])
        self.assertEqual([reader.ahead() for _ in range(5)], [(0,), (1,), (2,), (7,), None])
        reader.back()
        reader.back()
        self.assertEqual((reader.last(), reader.told()), (None, []))

    def test_twins_go_their_own_way(self):
        book, question = asked("find a : mark(a)")
        reader = Reader(book, question)
        reader.ahead()
        twin = reader.twin()
        self.assertIsInstance(twin, Reader)
        self.need_state(twin, book, question, [(1,)])
        self.assertEqual([twin.ahead(), twin.ahead()], [(2,), (7,)])
        self.need_state(reader, book, question, [(1,)])
        reader.back()
        self.need_state(twin, book, question, [(1,), (2,), (7,)])
        twin.back()
        self.assertEqual(reader.ahead(), (1,))
        self.assertEqual(twin.told(), [])
        # Both ask the very same book.
        book.put("mark", (0,))
        self.assertEqual((twin.ahead(), reader.missed()), ((0,), [(0,)]))

    def test_two_of_one_question_and_of_two_books(self):
        book, question = asked("find a : mark(a)")
        one, other = Reader(book, question), Reader(book, question)
        apart = Reader(book.twin(), question)
        self.assertEqual([one.ahead(), one.ahead(), other.ahead(), apart.ahead()], [(1,), (2,), (1,), (1,)])
        book.put("mark", (0,))
        self.assertEqual((one.missed(), other.missed(), apart.missed()), ([(0,)], [(0,)], []))
        one.back()
        self.assertEqual((one.told(), other.told()), ([], [(1,)]))

    def test_told_lists_changed_behind(self):
        book, question = asked("find a : mark(a)")
        reader = Reader(book, question)
        reader.ahead()
        reader.ahead()
        book.many([("put", "mark", (0,)), ("take", "mark", (1,))])
        for ask, expected in ((reader.told, [(1,), (2,)]), (reader.gone, [(1,)]), (reader.missed, [(0,)])):
            told = ask()
            told.append((31,))
            told[0] = None
            self.assertEqual(ask(), expected)
        self.assertEqual((reader.last(), reader.ahead()), ((2,), (7,)))

    def test_any_books(self):
        chance = random.Random(241)
        told_ever = 0
        for _ in range(100):
            worths = chance.sample(range(32), chance.choice([3, 4, 6]))
            tables = random_tables(chance, worths, 16)
            book, question = book_of(tables), random_question(chance, tables, worths, 3)
            readers, tolds = [Reader(book, question), Reader(book, question)], [[], []]
            for _ in range(25):
                turn = chance.randrange(2)
                way = chance.random()
                if way < 0.55:
                    tolds[turn] = self.go_on(readers[turn], book, question, tolds[turn])
                elif way < 0.9:
                    book.do(random_deed(chance, book, worths, [table for table, _ in question[2]]))
                elif way < 0.95 and book.steps()[0] > len(book) * 2:
                    book.undo()
                elif way < 0.97:
                    readers[turn].back()
                    tolds[turn] = []
                else:
                    readers[turn], tolds[turn] = readers[1 - turn].twin(), list(tolds[1 - turn])
                told_ever += len(tolds[turn])
                for reader, told in zip(readers, tolds):
                    self.need_state(reader, book, question, told)
        self.assertGreater(told_ever, 900)


class RefusalsTest(ReaderCase):
    def need_refused(self, reader, error, field, value):
        told, last = reader.told(), reader.last()
        for ask in (reader.ahead, reader.gone, reader.missed, reader.twin):
            with self.assertRaises(error) as caught:
                ask()
            self.assertIs(type(caught.exception), error)
            self.assertEqual(getattr(caught.exception, field), value)
            self.assertEqual((reader.told(), reader.last()), (told, last))

    def test_a_table_dropped_or_of_another_width_between(self):
        book, question = asked("find a : edge(a,a), mark(a)")
        book.fill("edge", [(1, 1), (2, 2), (7, 7)])
        reader, fresh = Reader(book, question), Reader(book, question)
        self.assertEqual([reader.ahead(), reader.ahead()], [(1,), (2,)])
        book.drop("mark")
        for each in (reader, fresh):
            self.need_refused(each, NoTable, "name", "mark")
        book.make("mark", 3)
        for each in (reader, fresh):
            self.need_refused(each, Unfit, "at", 1)
        book.drop("edge")
        for each in (reader, fresh):
            self.need_refused(each, NoTable, "name", "edge")
        book.undo()
        book.many([("drop", "mark"), ("make", "mark", 1), ("fill", "mark", [(7,), (2,)])])
        self.need_state(reader, book, question, [(1,), (2,)])
        self.assertEqual(reader.gone(), [(1,)])
        self.assertEqual([reader.ahead(), fresh.ahead(), reader.ahead()], [(7,), (2,), None])
        self.need_state(reader.twin(), book, question, [(1,), (2,), (7,)])

    def test_back_while_refused(self):
        book, question = asked("find a : mark(a)")
        reader = Reader(book, question)
        reader.ahead()
        book.drop("mark")
        self.assertIsNone(reader.back())
        self.assertEqual((reader.told(), reader.last()), ([], None))
        self.need_refused(reader, NoTable, "name", "mark")
        book.undo()
        self.assertEqual(reader.ahead(), (1,))

    def test_at_its_making(self):
        for thing in (None, 0, "", LETTERS, (), (("a",), 1, (), ()), (("a", "b"), 1, (("gone", ("a",)),), ())):
            for book in (Book(), book_of(BOOK)):
                self.assertRaises(BadQuestion, Reader, book, thing)
        book = book_of(BOOK)
        with self.assertRaises(NoTable) as caught:
            Reader(book, read_question("find a : mark(a,a), gone(a), lost(a)"))
        self.assertEqual(caught.exception.name, "gone")
        with self.assertRaises(Unfit) as caught:
            Reader(book, read_question("find a : mark(a), mark(a,a), edge(a)"))
        self.assertEqual(caught.exception.at, 1)

    def test_handed_in_by_name(self):
        book, question = asked("find a : mark(a)")
        self.assertEqual(Reader(question=question, book=book).ahead(), (1,))


class SoonTest(ReaderCase):
    def test_not_all_answers_are_looked_for(self):
        every = {"all": (1, [(worth,) for worth in range(32)])}
        book, question = asked("find a b c d e : all(a), all(b), all(c), all(d), all(e)", every)
        began = time.perf_counter()
        reader = Reader(book, question)
        self.assertEqual([reader.ahead() for _ in range(3)], [(0, 0, 0, 0, last) for last in range(3)])
        self.assertEqual((reader.gone(), reader.missed()), ([], []))
        book.take("all", (0,))
        self.assertEqual((reader.gone(), reader.missed()), ([(0, 0, 0, 0, last) for last in range(3)], []))
        self.assertEqual(reader.ahead(), (1, 1, 1, 1, 1))
        self.assertEqual((len(reader.gone()), reader.missed()), (3, []))
        self.assertLess(time.perf_counter() - began, 20)


if __name__ == "__main__":
    unittest.main()
