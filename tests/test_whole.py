"""[1], [2], [11], [13] The whole program: its interface, its refusals, and its ways to the same answers."""

import importlib
import inspect
import random
import re
import unittest
from itertools import permutations
from pathlib import Path

from tests.helper import book_of, fitting, random_deed, random_question, random_tables, rows_let, state_of
from voidquilt.answers import after, leaps, plain
from voidquilt.bits import brother, figures, shortest, span
from voidquilt.book import Book
from voidquilt.bounds import covers, measure, packing, packs, weights, worst
from voidquilt.boxes import box_of, halves, holds, joined, lies_in, meet, volume
from voidquilt.errors import Missing, Nothing, QuiltError
from voidquilt.mending import Keeper, mended, standing
from voidquilt.papers import answers_in, fault, papered, reason, step_box
from voidquilt.reader import Reader
from voidquilt.store import Store
from voidquilt.tally import counted
from voidquilt.ties import lets_by, need_fit, own_names, pair_gap, tie_gap
from voidquilt.tongue import question_text, read_question
from voidquilt.trees import ears, lessened
from voidquilt.walker import Walker
from voidquilt.written import read_paper

# What the interface tells, word for word: functions and classes with what is handed in, and the methods of the classes.
FUNCTIONS = {
    "bits": "figures(worth) span(beginning) brother(beginning) shortest(worth, worths)",
    "boxes": "is_box(thing) is_point(thing) box_of(point) volume(box) holds(box, point) lies_in(one, other) "
             "meet(one, other) joined(one, other) halves(box) whole(many)",
    "gaps": "gap(rows, point)",
    "tongue": "read_question(text) question_text(question) is_question(thing)",
    "ties": "need_fit(book, question) lets_by(book, question, tie) own_names(question, tie) "
            "tie_gap(book, question, tie, point) pair_gap(question, pair, point)",
    "answers": "plain(book, question) after(book, question, last) leaps(book, question)",
    "papers": "papered(book, question) fault(book, question, paper) answers_in(question, paper) "
              "step_box(question, paper, at) reason(question, paper, point)",
    "mending": "standing(book, question, paper) mended(book, question, paper)",
    "written": "paper_text(paper) read_paper(text, many)",
    "trees": "ears(question) lessened(book, question)",
    "bounds": "covers(question, weights) packs(question, packing) weights(question) packing(question) "
              "measure(question) worst(question, packing, *, power=4)",
    "tally": "counted(book, question, *, order=None)",
}
CLASSES = {
    "store": ("Store(many)", "put(box) over(box) boxes() bare() twin() __eq__(other) __len__() __repr__()"),
    "walker": ("Walker(rows)", "down() step() up() seek(worth) key() depth() ended()"),
    "book": ("Book()", "make(name, width) drop(name) put(name, row) take(name, row) fill(name, rows) do(deed) "
                       "many(deeds) undo() redo() names() width(name) rows(name) steps() twin() __eq__(other) "
                       "__len__() __repr__()"),
    "mending": ("Keeper(book, question)", "paper() stood()"),
    "reader": ("Reader(book, question)", "ahead() last() told() gone() missed() back() twin()"),
}
VALUES = {"bits": {"WORTHS": 32, "FIGURES": 5}, "boxes": {"MOST_PLACES": 5},
          "book": {"MOST_TABLES": 8, "MOST_ROWS": 40, "MOST_WIDTH": 4}, "papers": {"MOST_LET": 100}}
DOC = Path(__file__).resolve().parent.parent.parent / "shared" / "DOC.md"

TABLES = {"edge": (2, [(1, 2), (2, 3), (2, 2), (5, 1), (3, 1)]), "mark": (1, [(7,), (2,), (1,)]),
          "wide": (2, [(one, two) for one in range(8) for two in range(5)])}
NO_QUESTIONS = [None, 0, 7, "", "find a : mark(a)", (), ((),), (("a",), 1, (("mark", ("a",)),)),
                (("a",), 1, (("mark", ("a",)),), (), ()), (("a",), 0, (("gone", ("a",)),), ()),
                (("a",), 2, (("gone", ("a",)),), ()), (("a",), True, (("gone", ("a",)),), ()),
                (["a"], 1, (("gone", ("a",)),), ()), (("a",), 1, [("gone", ("a",))], ()),
                (("a",), 1, (("gone", ["a"]),), ()), (("a",), 1, (["gone", ("a",)],), ()),
                (("a",), 1, (("gone", ("a",)),), []), (("a", "a"), 1, (("gone", ("a",)),), ()),
                (("a", "b"), 1, (("gone", ("a",)),), ()), (("some",), 1, (("gone", ("some",)),), ()),
                (("abcde",), 1, (("gone", ("abcde",)),), ()), (("a",), 1, (("gone", ("a", 32)),), ()),
                (("a",), 1, (("gone", ("a", True)),), ()), (("a",), 1, (("gone", ("a", "b")),), ()),
                (("a",), 1, (("Gone", ("a",)),), ()), (("a",), 1, (("gone", ("a",) * 5),), ()),
                (("a",), 1, (("gone", ("a",)),) * 7, ()), (("a",), 1, (("gone", ("a",)), ("mark", ())), ()),
                (("a",), 1, (("mark", ("a", "a")),), (("a", "a"),)),
                (("a",), 1, (("mark", ("a", "a")),), (("a", "b"),)),
                (("a", "b"), 1, (("mark", ("a", "b")),), (("a", "b"),) * 4), (("a",), 1, (), ())]
OF_A_QUESTION = [lambda question: question_text(question), lambda question: own_names(question, 0),
                 lambda question: pair_gap(question, 0, (0, 0)), lambda question: answers_in(question, []),
                 lambda question: step_box(question, [("empty", 0, ("",))], 0),
                 lambda question: reason(question, [("empty", 0, ("",))], (0,)), lambda question: ears(question),
                 lambda question: covers(question, [(1, 1)]), lambda question: packs(question, [(1, 1)]),
                 lambda question: weights(question), lambda question: packing(question),
                 lambda question: measure(question), lambda question: worst(question, [(1, 1)]),
                 lambda question: worst(question, [(1, 1)], power=9)]
OF_A_BOOK = [need_fit, lambda *asked: lets_by(*asked, 0), lambda *asked: tie_gap(*asked, 0, (0,)), plain, leaps,
             lambda *asked: after(*asked, None), lambda *asked: after(*asked, (1, 2, 3, 4, 5, 6)), papered,
             lambda *asked: fault(*asked, []), lambda *asked: fault(*asked, [None]),
             lambda *asked: standing(*asked, []), lambda *asked: mended(*asked, []), Keeper, Reader, lessened, counted,
             lambda *asked: counted(*asked, order=[])]


def signature(function, name):
    """As the interface writes it, without the object's own place."""
    found = inspect.signature(function)
    kept = [one for one in found.parameters.values() if one.name != "self"]
    return name + str(found.replace(parameters=kept))


def put_for(things, old, new):
    return tuple(new if thing == old else thing for thing in things)


class InterfaceTest(unittest.TestCase):
    def test_functions(self):
        for stem, told in FUNCTIONS.items():
            module = importlib.import_module("voidquilt." + stem)
            for one in re.findall(r"\w+\([^)]*\)", told):
                name = one.split("(")[0]
                self.assertEqual(signature(vars(module)[name], name), one)
                self.assertEqual(vars(module)[name].__module__, "voidquilt." + stem)

    def test_classes_and_their_own_methods(self):
        for stem, (made, methods) in CLASSES.items():
            module = importlib.import_module("voidquilt." + stem)
            name = made.split("(")[0]
            own = vars(module)[name]
            self.assertEqual(signature(own, name), made)
            for one in re.findall(r"\w+\([^)]*\)", methods):
                method = one.split("(")[0]
                self.assertEqual(signature(vars(own)[method], method), one)

    def test_values(self):
        for stem, told in VALUES.items():
            module = importlib.import_module("voidquilt." + stem)
            for name, value in told.items():
                self.assertEqual(vars(module)[name], value)

    def test_the_document_has_no_more(self):
        """Each function and class that the interface writes with what is handed in is in the lists above."""
        text = DOC.read_text().split("# The interface")[1]
        known = set(" ".join([*FUNCTIONS.values(), *[one + " " + two for one, two in CLASSES.values()]])
                    .replace("(", " ( ").split())
        for section in re.findall(r"## voidquilt/(\w+)\.py\n(.*?)(?=\n## |\Z)", text, re.S):
            self.assertIn(section[0], [*FUNCTIONS, *CLASSES, "errors"])
            if section[0] != "errors":
                for name in re.findall(r"(?<![`\w])([a-z_]+|[A-Z][a-z]+)\([a-z_, *=0-9]*\)", section[1]):
                    self.assertTrue(name in known or name in ("TooMany",), (section[0], name))

    def test_things_are_handed_in_by_name(self):
        book = book_of({"edge": (2, [(1, 2)])})
        self.assertEqual(figures(worth=6), "00110")
        self.assertEqual((span(beginning="01"), brother(beginning="01")), ((8, 16), "00"))
        self.assertEqual(shortest(worths=[16], worth=6), "0")
        self.assertEqual((box_of(point=(6,)), volume(box=("01",))), (("00110",), 8))
        self.assertEqual(halves(box=("0",)), [("00",), ("01",)])
        self.assertIs(holds(point=(9,), box=("01",)), True)
        self.assertIs(lies_in(other=("0",), one=("01",)), True)
        self.assertEqual((meet(other=("0",), one=("01",)), joined(other=("0",), one=("1",))), (("01",), ("",)))
        store = Store(many=1)
        self.assertIs(store.put(box=("0",)), True)
        self.assertEqual(store.over(box=("01",)), ("0",))
        walker = Walker(rows=[(3,), (5,)])
        walker.down()
        walker.seek(worth=4)
        self.assertEqual(walker.key(), 5)
        self.assertIsNone(book.make(width=1, name="mark"))
        self.assertEqual([book.put(row=(3,), name="mark"), book.take(row=(3,), name="mark")], [1, 0])
        self.assertEqual([book.fill(rows=[(4,)], name="mark"), book.do(deed=("put", "mark", (5,)))], [1, 2])
        self.assertEqual(book.many(deeds=[("drop", "mark")]), [None])
        self.assertEqual((book.width(name="edge"), book.rows(name="edge")), (2, [(1, 2)]))
        self.assertIsNone(book.drop(name="edge"))
        question = read_question(text="find a : mark(a)")
        self.assertEqual(question_text(question=question), "find a : mark(a)")


class RefusalsTest(unittest.TestCase):
    """Each of the twenty-two refusals, called forth by what refuses with it."""

    def need(self, ask, called, **fields):
        with self.assertRaises((QuiltError, Missing, Nothing)) as caught:
            ask()
        refusal = caught.exception
        self.assertEqual((type(refusal).__name__, refusal.called), (called, called))
        self.assertEqual(type(refusal).__module__, "voidquilt.errors")
        self.assertEqual(vars(refusal), {"called": called, **fields})
        under = {"NoTable": Missing, "NoRow": Missing, "Nothing": IndexError}.get(called, QuiltError)
        self.assertEqual(type(refusal).__bases__, (under,))
        self.seen.add(called)

    def test_all(self):
        self.seen = set()
        book = book_of(TABLES)
        question = read_question("find a b : edge(a,b), mark(a)")
        self.need(lambda: figures(32), "BadWorth")
        self.need(lambda: brother(""), "BadBeginning")
        self.need(lambda: box_of((32,)), "BadPoint")
        self.need(lambda: after(book, question, (1,)), "BadPoint")
        self.need(lambda: volume(("2",)), "BadBox")
        self.need(lambda: Store(2).put(("",)), "BadBox")
        self.need(lambda: meet(("",), ("", "")), "Unlike")
        self.need(lambda: Walker([]).down(), "Off")
        self.need(lambda: book.make("find", 1), "BadName")
        self.need(lambda: book.make("edge", 9), "Taken", name="edge")
        self.need(lambda: book.make("other", True), "BadWidth")
        self.need(lambda: book.put("edge", (1,)), "BadRow")
        self.need(lambda: book.put("edge", (1, 2)), "There")
        self.need(lambda: book.put("wide", (31, 31)), "Full", what="rows")
        self.need(lambda: book.many([("make", letter, 1) for letter in "abcdef"]), "Full", what="tables")
        self.need(lambda: book.do(("put", "edge")), "BadDeed")
        self.need(lambda: plain(book, ("a",)), "BadQuestion")
        self.need(lambda: read_question("find a : edge(a,32)"), "BadText", at=16)
        self.need(lambda: read_paper("told 1\ntold 32\n", 1), "BadText", at=1)
        self.need(lambda: plain(book, read_question("find a : edge(a,a), mark(a,a)")), "Unfit", at=1)
        self.need(lambda: counted(book, question, order=["a"]), "BadOrder")
        self.need(lambda: worst(question, [(0, 1), (0, 1)], power=6), "BadPower")
        three = read_question("find a b : wide(a,b), wide(a,b), wide(b,a)")
        self.need(lambda: papered(book, three), "TooMany", most=100)
        self.need(lambda: book.rows("gone"), "NoTable", name="gone")
        self.need(lambda: book.take("edge", (9, 9)), "NoRow", name="edge")
        self.need(lambda: Book().undo(), "Nothing")
        self.need(lambda: Book().redo(), "Nothing")
        self.assertEqual(len(self.seen), 22)
        self.assertEqual(state_of(book), state_of(book_of(TABLES)))

    def test_bad_question_goes_ahead_of_all_else(self):
        for book in (Book(), book_of(TABLES)):
            before = state_of(book)
            for thing in NO_QUESTIONS:
                for ask in OF_A_BOOK:
                    self.need_called(lambda: ask(book, thing), "BadQuestion")
            self.assertEqual(state_of(book), before)
        for thing in NO_QUESTIONS:
            for ask in OF_A_QUESTION:
                self.need_called(lambda: ask(thing), "BadQuestion")

    def test_no_table_goes_ahead_of_unfit(self):
        book = book_of(TABLES)
        before = state_of(book)
        for text, name in (("find a : gone(a)", "gone"), ("find a : mark(a,a), gone(a), lost(a)", "gone"),
                           ("find a b : wide(a,b), wide(a,b), wide(b,a), edge(a), lost(a)", "lost")):
            for ask in OF_A_BOOK:
                self.assertEqual(self.need_called(lambda: ask(book, read_question(text)), "NoTable").name, name)
        for text, at in (("find a : mark(a,a)", 0), ("find a : mark(a), edge(a), mark(a,a)", 1),
                         ("find a b : wide(a,b), wide(a,b), wide(b,a), edge(a)", 3)):
            for ask in OF_A_BOOK:
                self.assertEqual(self.need_called(lambda: ask(book, read_question(text)), "Unfit").at, at)
        self.assertEqual(state_of(book), before)

    def need_called(self, ask, called):
        with self.assertRaises((QuiltError, Missing)) as caught:
            ask()
        self.assertEqual(caught.exception.called, called)
        return caught.exception


class AgreeCase(unittest.TestCase):
    def need_agreement(self, book, question, worths, keeper=None):
        """All ways to the answers tell the same, which is right by hand."""
        before = state_of(book)
        points = fitting(book, question, worths)
        answers = sorted({point[:question[1]] for point in points})
        self.assertEqual(plain(book, question), answers, question)
        self.assertEqual(leaps(book, question), answers)
        self.assertEqual(counted(book, question), len(points))
        reader = Reader(book, question)
        self.assertEqual([reader.ahead() for _ in answers] + [reader.ahead()], [*answers, None])
        if rows_let(book, question) <= 100:
            for paper in [papered(book, question)] + ([keeper.paper()] if keeper else []):
                self.assertIsNone(fault(book, question, paper))
                self.assertEqual(answers_in(question, paper), answers)
                told = [step for step in paper if step[0] == "told"]
                self.assertEqual(len(told), len(answers))
                if question[1] == len(question[0]):
                    self.assertEqual(len(told), counted(book, question))
        self.assertEqual(state_of(book), before)
        return answers


class AgreeTest(AgreeCase):
    def test_behind_deeds_and_takings_back(self):
        chance = random.Random(11)
        told = 0
        for book, question, worths in self.cases(chance, 30):
            names = [table for table, _ in question[2]]
            keeper = Keeper(book, question)
            for _ in range(10):
                self.change(chance, book, worths, names)
                told += len(self.need_agreement(book, question, worths, keeper))
        self.assertGreater(told, 200)

    def change(self, chance, book, worths, names):
        """A deed, a row of deeds, a refused one, or one taken back or done again."""
        way = chance.randrange(6)
        if way == 0 and book.steps()[0] > 2 * len(book):
            book.undo()
        elif way == 1 and book.steps()[1]:
            book.redo()
        elif way == 2:
            twin = book.twin()
            deeds = []
            for _ in range(3):
                deeds.append(random_deed(chance, twin, worths, names))
                twin.do(deeds[-1])
            book.many(deeds)
            self.assertEqual(book, twin)
        elif way == 3:
            before = state_of(book)
            deeds = [random_deed(chance, book, worths, names), ("put", names[0], (1, 2, 3, 4, 5)), ("drop", names[0])]
            self.assertRaises(QuiltError, book.many, deeds)
            self.assertEqual(state_of(book), before)
        else:
            book.do(random_deed(chance, book, worths, names))

    def cases(self, chance, count):
        """Books and questions of two to four names that have answers."""
        made = []
        while len(made) < count:
            worths = chance.sample(range(32), chance.choice([3, 4]))
            tables = random_tables(chance, worths, 36)
            book, question = book_of(tables), random_question(chance, tables, worths)
            if len(question[0]) > 1 and counted(book, question):
                made.append((book, question, worths))
        return made

    def test_names_in_another_order(self):
        chance = random.Random(12)
        for book, (names, _, ties, less), worths in self.cases(chance, 12):
            many = len(names)
            answers = self.need_agreement(book, (names, many, ties, less), worths)
            for order in permutations(range(many)):
                other = (tuple(names[at] for at in order), many, ties, less)
                moved = sorted(tuple(answer[at] for at in order) for answer in answers)
                self.assertEqual(self.need_agreement(book, other, worths), moved)

    def test_fewer_names_shown(self):
        chance = random.Random(13)
        for book, (names, _, ties, less), worths in self.cases(chance, 25):
            answers = plain(book, (names, len(names), ties, less))
            for many in range(1, len(names) + 1):
                fewer = self.need_agreement(book, (names, many, ties, less), worths)
                self.assertEqual(fewer, sorted({answer[:many] for answer in answers}))

    def test_a_pair_either_way_and_two_names_alike(self):
        chance = random.Random(14)
        for book, (names, _, ties, less), worths in self.cases(chance, 40):
            first, second = chance.sample(names, 2)
            less = less[:2]
            every = (names, len(names), ties, less)
            rising = (names, len(names), ties, less + ((first, second),))
            falling = (names, len(names), ties, less + ((second, first),))
            same = [point for point in fitting(book, every, worths)
                    if point[names.index(first)] == point[names.index(second)]]
            parts = [self.need_agreement(book, question, worths) for question in (rising, falling)]
            self.assertEqual(sorted([*parts[0], *parts[1], *same]), plain(book, every))
            kept = tuple(name for name in names if name != second)
            moved_ties = tuple((table, put_for(terms, second, first)) for table, terms in ties)
            moved = tuple(put_for(pair, second, first) for pair in less)
            if any(one == two for one, two in moved):
                self.assertEqual(same, [])
            else:
                alike = (kept, len(kept), moved_ties, moved)
                expected = sorted(tuple(worth for name, worth in zip(names, point) if name != second) for point in same)
                self.assertEqual(self.need_agreement(book, alike, worths), expected)

    def test_a_question_written_and_read_again(self):
        chance = random.Random(15)
        for book, question, worths in self.cases(chance, 20):
            again = read_question(question_text(question))
            self.assertEqual(again, question)
            self.need_agreement(book, again, worths)


if __name__ == "__main__":
    unittest.main()
