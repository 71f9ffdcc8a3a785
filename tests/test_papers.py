"""[14], [15], [16] Papers: made, judged, and what they tell."""

import random
import time
import unittest
from itertools import product

from tests.helper import (NO_BOXES, NO_POINTS, book_of, boxes_by_hand, fault_by_hand, in_box, paper_cases, rows_let,
                          shown_box, state_of)
from voidquilt.answers import leaps, plain
from voidquilt.book import Book
from voidquilt.errors import BadQuestion, NoTable, TooMany, Unfit
from voidquilt.papers import MOST_LET, answers_in, fault, papered, reason, step_box
from voidquilt.tongue import read_question

BOOK = {"edge": (2, [(1, 2), (2, 3), (2, 2), (5, 1), (3, 1)]), "mark": (1, [(7,), (2,), (1,)]), "none": (2, []),
        "tri": (3, [(1, 2, 3), (2, 2, 2), (31, 0, 31), (1, 1, 5)]), "quad": (4, [(1, 2, 3, 1), (0, 31, 0, 31)])}
TEXTS = ["find a : mark(a)", "find a : none(a,a)", "find a : mark(a), mark(7), edge(1,2)", "find a : mark(a), mark(8)",
         "find a : edge(a,a)", "find a : edge(2,a)", "find a b : edge(a,b)", "find b a : edge(a,b)",
         "find a some b : edge(a,b)", "find a b : edge(a,b), a < b", "find a b : edge(a,b), b < a, a < b",
         "find a b : mark(a), mark(b), a < b", "find a some b : mark(a), mark(b), b < a",
         "find a b c : edge(a,b), edge(b,c)", "find a b c : edge(a,b), edge(b,c), edge(c,a)",
         "find a some b c : edge(a,b), edge(b,c), edge(c,a)", "find a b : edge(a,b), edge(a,b), edge(a,b)",
         "find a b c : tri(a,b,c), edge(a,b), a < c",
         "find a b some c d : edge(a,b), edge(b,c), edge(c,d), a < d, d < b",
         "find a b c d : quad(a,b,c,d)", "find a c some b d : quad(a,b,c,d), mark(1)",
         "find a some b c d e : edge(a,b), edge(b,c), edge(c,d), edge(d,e), edge(e,a)",
         "find a b c d e : edge(a,b), edge(b,c), edge(c,d), edge(d,e), edge(e,a), mark(a), a < b, b < c",
         "find a e some b c d : edge(a,b), edge(b,c), edge(c,d), edge(d,e), none(0,0)",
         "find a b c d e : none(a,b), none(c,d), none(e,e)", "find a b c some d e : tri(a,b,c), tri(d,e,7), mark(e)",
         "find a some b : mark(a), mark(b), edge(1,2), edge(3,1), mark(2)"]
LETTERS = "find a b some c : edge(a,b), edge(b,c), mark(c), a < b"


def asked(text, tables=None):
    return (book_of(BOOK if tables is None else tables), read_question(text))


def twisted(chance, question, paper, ways=9):
    """The paper bent in one of many ways, of which the first four only move its steps."""
    steps = list(paper)
    at, other = chance.randrange(len(steps)), chance.randrange(len(steps))
    way = chance.randrange(ways)
    if way == 0:
        del steps[at]
    elif way == 1:
        steps.insert(other, steps[at])
    elif way == 2:
        steps[at], steps[other] = steps[other], steps[at]
    elif way == 3:
        steps = steps[:at]
    elif way == 4:
        steps.insert(at, chance.choice(odd_steps(question)))
    elif way == 5:
        steps[at] = chance.choice(odd_steps(question))
    else:
        steps[at] = bent(chance, steps[at], len(steps))
    return steps


def bent(chance, step, count):
    """The step with one of its things a little changed."""
    things = list(step)
    spot = chance.randrange(1, len(things))
    if isinstance(things[spot], int):
        things[spot] = chance.choice([things[spot] - 1, things[spot] + 1, chance.randrange(count)])
    else:
        inner = list(things[spot])
        place = chance.randrange(len(inner))
        if isinstance(inner[place], int):
            inner[place] = chance.randrange(32)
        else:
            inner[place] = chance.choice([inner[place][:-1], inner[place] + "0", inner[place] + "1", ""])
        things[spot] = tuple(inner)
    return tuple(things)


def odd_steps(question):
    """Things in the place of a step, most of which are none or don't hold."""
    many = len(question[0])
    room, point = ("",) * many, (1,) * many
    corner = ("00000",) * many
    return [None, True, False, 0, 1, -1, "", "empty", "told", (), [], {}, ("empty",), ("empty", 0), ("told",),
            ("less",), ("joined",), ("joined", 0), ("joined", 0, 1), ["empty", 0, room], ["told", point],
            ("empty", 0, room, 0), ("told", point, 0), ("told", point, room), ("less", 0), ("less", 0, room, room),
            ("joined", 0, 1, room, room), ("void", 0, room), ("Empty", 0, room), ("", 0, room), (None, 0, room),
            (0, 0, room), (True, point), (["told"], point), (("told",), point), ("empty ", 0, room), (b"told", point),
            ("empty", True, room), ("empty", False, corner), ("empty", -1, room), ("empty", 9, room),
            ("empty", len(question[2]), corner), ("empty", None, room), ("empty", "0", room), ("empty", 0.0, corner),
            ("empty", (0,), room), ("empty", [0], room), ("empty", 10 ** 30 - 1, room), ("empty", -(10 ** 29), corner),
            ("less", True, corner), ("less", False, corner), ("less", -1, corner), ("less", len(question[3]), corner),
            ("less", 7, corner), ("less", None, corner), ("less", "0", corner), ("less", 0, room), ("less", 0, corner),
            ("empty", 0, list(corner)), ("empty", 0, corner + ("",)), ("empty", 0, corner[1:]), ("empty", 0, None),
            ("empty", 0, "00000"), ("empty", 0, 0), ("empty", 0, ("000000",) * many), ("empty", 0, ("2",) * many),
            ("empty", 0, (0,) * many), ("empty", 0, (None,) * many), ("less", 0, corner + ("",)),
            ("less", 0, corner[1:]),
            ("told", list(point)), ("told", point + (1,)), ("told", point[1:]), ("told", None), ("told", 1),
            ("told", (32,) * many), ("told", (-1,) * many), ("told", (True,) * many), ("told", ("1",) * many),
            ("told", ((1,),) * many), ("told", ([1],) * many), ("told", room), ("told", ()), ("told", (None,) * many),
            ("joined", 0, 0, room), ("joined", 0, 1, room), ("joined", 1, 0, room), ("joined", True, False, room),
            ("joined", -1, -2, room), ("joined", 0, 10 ** 29, room), ("joined", None, None, room),
            ("joined", "0", "1", room), ("joined", 0, 1, None), ("joined", 0, 0, None), ("joined", 0, 1, list(room)),
            ("joined", (0,), (1,), room), ("joined", [0], [1], room), ("joined", 0, 1, room[1:]),
            ("joined", 0, 1, room + ("",)), ("joined", 0.0, 1.0, room)]


class PaperCase(unittest.TestCase):
    def need_right(self, book, question, paper):
        """The paper is a list of steps that is right by hand, and tells the answers."""
        self.assertIs(type(paper), list)
        boxes = boxes_by_hand(book, question, paper)
        self.assertNotIn(None, boxes, question)
        self.assertEqual(boxes[-1], ("",) * len(question[0]))
        self.assertIsNone(fault(book, question, paper))
        answers = answers_in(question, paper)
        self.assertIs(type(answers), list)
        self.assertEqual(answers, plain(book, question))
        self.assertEqual(answers, leaps(book, question))
        for at, box in enumerate(boxes):
            self.assertEqual(step_box(question, paper, at), box)

    def need_paper(self, book, question):
        before = state_of(book)
        paper = papered(book, question)
        kept = list(paper)
        self.need_right(book, question, paper)
        self.assertEqual(paper, kept)
        paper.clear()
        again = papered(book, question)
        self.need_right(book, question, again)
        self.assertEqual(state_of(book), before)
        return again

    def need_fault(self, book, question, paper, expected):
        kept = list(paper)
        self.assertEqual(fault(book, question, paper), expected, (question, paper))
        self.assertEqual(paper, kept)


class PaperedTest(PaperCase):
    def test_told_questions(self):
        for text in TEXTS:
            self.need_paper(*asked(text))

    def test_one_step_where_a_tie_lets_by_nothing(self):
        for text in ("find a b : none(a,b)", "find a : mark(a), mark(8)", "find a b : mark(a), mark(b), none(1,1)"):
            book, question = asked(text)
            self.assertEqual(fault(book, question, [("empty", len(question[2]) - 1, ("",) * len(question[0]))]), None)
            self.assertEqual(answers_in(question, self.need_paper(book, question)), [])

    def test_whole_tables(self):
        every = {"all": (1, [(worth,) for worth in range(32)])}
        paper = self.need_paper(*asked("find a : all(a)", every))
        told = sorted(step for step in paper if step[0] == "told")
        self.assertEqual(told, [("told", (worth,)) for worth in range(32)])
        self.need_paper(*asked("find a some b : all(a), all(b), a < b", every))
        self.need_paper(*asked("find b some a : all(a), all(b), a < b", every))
        self.need_paper(*asked("find a some b c : all(a), all(b), all(c), a < b, b < c", every))
        self.need_paper(*asked("find a b c : all(a), all(b), all(c), a < b, b < c, c < a", every))

    def test_any_questions(self):
        for book, question, _ in paper_cases(random.Random(151), 150):
            self.need_paper(book, question)

    def test_a_later_change_of_the_book_changes_no_paper(self):
        book, question = asked("find a : mark(a)")
        paper = papered(book, question)
        kept = list(paper)
        book.fill("mark", [])
        self.assertEqual(paper, kept)
        self.assertEqual(answers_in(question, paper), [(1,), (2,), (7,)])
        self.assertEqual(answers_in(question, self.need_paper(book, question)), [])

    def test_each_point_lies_in_a_box_that_is_not_joined(self):
        for text in ("find a : mark(a)", "find a b : edge(a,b), a < b", "find a some b : mark(a), mark(b), b < a"):
            book, question = asked(text)
            paper = papered(book, question)
            plain_boxes = [step_box(question, paper, at) for at, step in enumerate(paper) if step[0] != "joined"]
            for point in product(range(32), repeat=len(question[0])):
                self.assertTrue(any(in_box(point, box) for box in plain_boxes), (text, point))


class FaultTest(PaperCase):
    """fault of papers that are not as papered told them."""

    def test_told_by_hand(self):
        book, question = asked("find a some b : edge(a,b), b < a", {"edge": (2, [(1, 2), (16, 3)])})
        right = [("empty", 0, ("01", "")), ("empty", 0, ("001", "")), ("empty", 0, ("0001", "")),
                 ("empty", 0, ("00000", "")), ("less", 0, ("00001", "0001")), ("empty", 0, ("00001", "1")),
                 ("empty", 0, ("00001", "01")), ("empty", 0, ("00001", "001")), ("empty", 0, ("00001", "0000")),
                 ("joined", 8, 4, ("00001", "000")), ("joined", 9, 7, ("00001", "00")),
                 ("joined", 10, 6, ("00001", "0")), ("joined", 11, 5, ("00001", "")), ("joined", 3, 12, ("0000", "")),
                 ("joined", 2, 13, ("000", "")), ("joined", 14, 1, ("00", "")), ("joined", 15, 0, ("0", "")),
                 ("told", (16, 3)), ("empty", 0, ("11", "")), ("empty", 0, ("101", "")), ("empty", 0, ("1001", "")),
                 ("empty", 0, ("10001", "")), ("joined", 17, 21, ("1000", "")), ("joined", 22, 20, ("100", "")),
                 ("joined", 23, 19, ("10", "")), ("joined", 24, 18, ("1", "")), ("joined", 25, 16, ("", ""))]
        self.need_right(book, question, right)
        for at in range(len(right)):
            self.need_fault(book, question, right[:at], at)
            for odd in odd_steps(question):
                twin = [*right[:at], odd, *right[at + 1:]]
                self.need_fault(book, question, twin, fault_by_hand(book, question, twin))
        for at, step in ((9, ("joined", 8, 9, ("00001", "000"))), (9, ("joined", 8, 10, ("00001", "000"))),
                         (9, ("joined", 9, 9, ("00001", "000"))), (9, ("joined", 8, 4, ("00001", "00"))),
                         (9, ("joined", 8, 4, ("0000", "000"))), (9, ("joined", 8, 7, ("00001", "000"))),
                         (4, ("less", 0, ("00001", "000"))), (4, ("less", 1, ("00001", "0001"))),
                         (17, ("told", (16, 4))), (17, ("told", (1, 2))), (0, ("empty", 0, ("0", ""))),
                         (0, ("empty", 1, ("01", ""))), (17, ("told", (3, 16)))):
            self.need_fault(book, question, [*right[:at], step, *right[at + 1:]], at)

    def test_no_steps_and_the_end_cut_off(self):
        for text in TEXTS:
            book, question = asked(text)
            self.need_fault(book, question, [], 0)
            paper = papered(book, question)
            for end in range(len(paper)):
                self.need_fault(book, question, paper[:end], end)

    def test_steps_behind_the_whole_box(self):
        book, question = asked("find a : mark(a)")
        paper = papered(book, question)
        self.need_fault(book, question, [*paper, paper[0]], len(paper) + 1)
        self.need_fault(book, question, [*paper, paper[0], paper[-1]], None)
        self.need_fault(book, question, [*paper, paper[-1]], None)
        self.need_fault(book, question, [*paper, None], len(paper))

    def test_a_told_step_twice_or_with_the_box_of_one_ahead(self):
        book, question = asked("find a some b : edge(a,b)")
        paper = papered(book, question)
        at = next(at for at, step in enumerate(paper) if step[0] == "told" and step[1][0] == 2)
        for point in ((2, 2), (2, 3)):
            self.need_fault(book, question, [*paper, ("told", point)], len(paper))
            self.need_fault(book, question, [*paper[:at], ("told", point), *paper[at + 1:]], None)
            ahead = [("told", point), *paper]
            self.need_fault(book, question, ahead, fault_by_hand(book, question, ahead))
        self.need_fault(book, question, [("told", (2, 2)), ("told", (2, 3))], 1)
        self.need_fault(book, question, [("told", (2, 2)), ("told", (2, 2))], 1)
        self.need_fault(book, question, [("told", (2, 2)), ("told", (1, 2))], 2)

    def test_boxes_and_points_of_other_rooms(self):
        book, question = asked("find a b : edge(a,b)")
        for box in NO_BOXES:
            self.need_fault(book, question, [("empty", 0, ("1", "1")), ("empty", 0, box)], 1)
            self.need_fault(book, question, [("empty", 0, ("1", "1")), ("joined", 0, 0, box)], 1)
        for point in NO_POINTS:
            self.need_fault(book, question, [("told", (1, 2)), ("told", point)], 1)
        for step in NO_BOXES + NO_POINTS:
            self.need_fault(book, question, [("told", (1, 2)), step], 1)

    def test_bent_papers(self):
        chance = random.Random(152)
        right = 0
        for book, question, _ in paper_cases(chance, 60, 4):
            paper = papered(book, question)
            if len(paper) > 120:
                continue
            for _ in range(30):
                steps = twisted(chance, question, paper)
                if steps and chance.random() < 0.3:
                    steps = twisted(chance, question, steps, 4)
                expected = fault_by_hand(book, question, steps)
                right += expected is None
                self.need_fault(book, question, steps, expected)
        self.assertGreater(right, 20)

    def test_papers_of_another_book(self):
        chance = random.Random(153)
        for book, question, worths in paper_cases(chance, 40, 4):
            paper = papered(book, question)
            for name in book.names():
                other = book.twin()
                other.fill(name, [tuple(chance.choice(worths) for _ in range(book.width(name)))])
                self.need_fault(other, question, paper, fault_by_hand(other, question, paper))

    def test_papers_of_another_question(self):
        book = book_of(BOOK)
        for text in TEXTS:
            question = read_question(text)
            for other in ("find a b : edge(a,b)", "find a : mark(a)", "find a some b : edge(b,a), b < a"):
                paper = papered(book, read_question(other))
                self.need_fault(book, question, paper, fault_by_hand(book, question, paper))


class TooManyTest(PaperCase):
    TABLES = {"wide": (2, [(one, two) for one in range(8) for two in range(5)]), "mark": (1, [(1,), (2,)]),
              "line": (1, [(worth,) for worth in range(20)])}

    def need_too_many(self, book, question):
        before = state_of(book)
        with self.assertRaises(TooMany) as caught:
            papered(book, question)
        self.assertEqual((caught.exception.most, caught.exception.called), (100, "TooMany"))
        self.assertEqual(state_of(book), before)

    def test_just_a_hundred_are_none_too_many(self):
        self.assertEqual(MOST_LET, 100)
        book, question = asked("find a b : wide(a,b), wide(b,a), line(a)", self.TABLES)
        self.assertEqual(rows_let(book, question), 100)
        self.need_paper(book, question)
        book.put("line", (20,))
        self.assertEqual(rows_let(book, question), 101)
        self.need_too_many(book, question)
        book.undo()
        self.need_paper(book, question)

    def test_rows_let_by_count_and_not_those_of_the_tables(self):
        text = "find a b : wide(a,a), wide(b,3), wide(3,a), wide(0,0), wide(7,b), wide(a,b)"
        book, question = asked(text, self.TABLES)
        self.assertLessEqual(rows_let(book, question), 100)
        self.need_paper(book, question)

    def test_a_tie_without_names_counts_too(self):
        text = "find a b : wide(a,b), wide(b,a), line(a), mark(1)"
        book, question = asked(text, self.TABLES)
        self.assertEqual(rows_let(book, question), 101)
        self.need_too_many(book, question)
        self.need_paper(*asked(text.replace("mark(1)", "mark(3)"), self.TABLES))

    def test_faults_are_told_all_the_same(self):
        book, question = asked("find a b : wide(a,b), wide(b,a), wide(a,b)", self.TABLES)
        few = read_question("find a b : wide(a,b), wide(b,a)")
        paper = papered(book, few)
        self.need_too_many(book, question)
        self.need_right(book, question, paper)
        self.need_fault(book, question, paper[1:], fault_by_hand(book, question, paper[1:]))
        self.assertEqual(reason(question, paper, (0, 0)), reason(few, paper, (0, 0)))

    def test_other_refusals_go_ahead(self):
        book = book_of(self.TABLES)
        self.assertRaises(BadQuestion, papered, book, (("a",), 2, (("wide", ("a", "a")),), ()))
        self.assertRaises(NoTable, papered, book,
                          read_question("find a b : wide(a,b), wide(b,a), wide(a,b), wide(a), gone(a)"))
        self.assertRaises(Unfit, papered, book, read_question("find a b : wide(a,b), wide(b,a), wide(a,b), wide(a)"))


class ReasonTest(PaperCase):
    def need_reasons(self, question, paper, points):
        for point in points:
            at = len(paper) - 1
            while paper[at][0] == "joined":
                one, other = paper[at][1], paper[at][2]
                at = one if in_box(point, step_box(question, paper, one)) else other
            kept = list(paper)
            told = reason(question, paper, point)
            self.assertEqual(told, at)
            self.assertEqual(paper, kept)
            self.assertNotEqual(paper[told][0], "joined")
            self.assertTrue(in_box(point, step_box(question, paper, told)))

    def test_all_points_of_small_rooms(self):
        for text in ("find a : mark(a)", "find a b : edge(a,b)", "find a some b : edge(a,b), b < a"):
            book, question = asked(text)
            self.need_reasons(question, papered(book, question), product(range(32), repeat=len(question[0])))

    def test_points_of_any_questions(self):
        chance = random.Random(161)
        for book, question, worths in paper_cases(chance, 60):
            paper = papered(book, question)
            points = [tuple(chance.choice([*worths, chance.randrange(32)]) for _ in question[0]) for _ in range(30)]
            self.need_reasons(question, paper, points)
            for answer in answers_in(question, paper):
                rest = (0,) * (len(question[0]) - question[1])
                self.assertEqual(paper[reason(question, paper, answer + rest)][1][:question[1]], answer)

    def test_told_ones(self):
        book, question = asked("find a b : none(a,b)")
        # The boxes of the two are wider than what they make: the way goes by the box that holds the point.
        paper = [("empty", 0, ("0", "")), ("empty", 0, ("1", "0")), ("empty", 0, ("", "1")),
                 ("joined", 0, 1, ("", "0")), ("joined", 3, 2, ("", ""))]
        self.need_right(book, question, paper)
        corners = [(0, 0), (31, 0), (0, 31), (31, 31)]
        self.assertEqual([reason(question, paper, point) for point in corners], [0, 1, 2, 2])
        turned = [*paper[:3], ("joined", 1, 0, ("", "0")), ("empty", 0, ("0", "1")), ("joined", 2, 3, ("", ""))]
        self.need_right(book, question, turned)
        self.assertEqual([reason(question, turned, point) for point in corners], [0, 1, 2, 2])
        twice = [*paper, *paper[:2], ("joined", 6, 5, ("", "0")), ("joined", 2, 7, ("", ""))]
        self.need_right(book, question, twice)
        self.assertEqual([reason(question, twice, point) for point in corners], [5, 6, 2, 2])

    def test_right_papers_with_steps_that_none_needs(self):
        chance = random.Random(162)
        for book, question, worths in paper_cases(chance, 30, 3):
            paper = papered(book, question)
            spare = [step for step in paper if step[0] in ("empty", "less")]
            longer = spare + [step if step[0] != "joined" else (
                "joined", step[2] + len(spare), step[1] + len(spare), step[3]) for step in paper]
            self.assertIsNone(fault(book, question, longer))
            self.need_reasons(question, longer, [tuple(chance.choice([*worths, 0, 31]) for _ in question[0])
                                                 for _ in range(20)])

    def test_a_paper_of_one_step(self):
        book, question = asked("find a b c : none(a,b), mark(c)")
        paper = [("empty", 0, ("", "", ""))]
        self.need_right(book, question, paper)
        self.need_reasons(question, paper, [(0, 0, 0), (31, 31, 31)])


class ToldTest(PaperCase):
    def test_step_box(self):
        question = read_question("find a b some c : tri(a,b,c)")
        paper = [("empty", 0, ("0", "", "1")), ("less", 0, ("", "01", "")), ("told", (6, 31, 4)),
                 ("joined", 0, 1, ("", "", "11111"))]
        self.assertEqual([step_box(question, paper, at) for at in range(4)],
                         [("0", "", "1"), ("", "01", ""), ("00110", "11111", ""), ("", "", "11111")])
        shown = read_question("find a b c : tri(a,b,c)")
        self.assertEqual(step_box(shown, paper, 2), ("00110", "11111", "00100"))
        for question in (question, shown):
            self.assertEqual(step_box(question, paper, 2), shown_box(question, (6, 31, 4)))

    def test_answers_in(self):
        question = read_question("find a b some c : tri(a,b,c)")
        paper = [("told", (9, 1, 4)), ("empty", 0, ("0", "", "1")), ("told", (2, 31, 4)), ("told", (2, 3, 0)),
                 ("told", (2, 3, 1)), ("joined", 0, 1, ("", "", "11111"))]
        kept = list(paper)
        told = answers_in(question, paper)
        self.assertEqual(told, [(2, 3), (2, 31), (9, 1)])
        told.clear()
        self.assertEqual(answers_in(question, paper), [(2, 3), (2, 31), (9, 1)])
        self.assertEqual(paper, kept)
        self.assertEqual(answers_in(question, []), [])

    def test_refusals(self):
        for book in (Book(), book_of(BOOK)):
            for thing in (None, 0, "", LETTERS, (), (("a",), 1, (), ()), (("a", "b"), 1, (("gone", ("a",)),), ())):
                self.assertRaises(BadQuestion, papered, book, thing)
                self.assertRaises(BadQuestion, fault, book, thing, [])
                self.assertRaises(BadQuestion, answers_in, thing, [])
                self.assertRaises(BadQuestion, step_box, thing, [("empty", 0, ("",))], 0)
                self.assertRaises(BadQuestion, reason, thing, [("empty", 0, ("",))], (0,))
        book = book_of(BOOK)
        for way in (papered, lambda *things: fault(*things, [None])):
            with self.assertRaises(NoTable) as caught:
                way(book, read_question("find a : mark(a,a), gone(a), lost(a)"))
            self.assertEqual(caught.exception.name, "gone")
            with self.assertRaises(Unfit) as caught:
                way(book, read_question("find a : mark(a), mark(a,a), edge(a)"))
            self.assertEqual(caught.exception.at, 1)

    def test_handed_in_by_name(self):
        book, question = asked(LETTERS)
        paper = papered(question=question, book=book)
        self.assertIsNone(fault(paper=paper, question=question, book=book))
        self.assertEqual(answers_in(paper=paper, question=question), plain(book, question))
        self.assertEqual(step_box(at=len(paper) - 1, paper=paper, question=question), ("", "", ""))
        self.assertEqual(reason(point=(0, 0, 0), paper=paper, question=question), reason(question, paper, (0, 0, 0)))


class SoonTest(PaperCase):
    def need_soon(self, book, question):
        began = time.perf_counter()
        paper = papered(book, question)
        self.assertIsNone(fault(book, question, paper))
        self.assertLess(time.perf_counter() - began, 20)
        self.assertEqual(answers_in(question, paper), plain(book, question))
        return paper

    def test_five_names_and_a_hundred_rows(self):
        chance = random.Random(154)
        ring = ("ta", "tb", "tc", "td", "te")
        for worths in (5, 8, 20, 32):
            rows = sorted(product(range(worths), repeat=2))
            for text in ("find a some b c d e", "find a d some b c e", "find a b c d e", "find a c e b d"):
                tables = {name: (2, chance.sample(rows, 20)) for name in ring}
                book, question = asked(text + " : ta(a,b), tb(b,c), tc(c,d), td(d,e), te(e,a)", tables)
                self.assertEqual(rows_let(book, question), 100)
                self.assertLess(len(self.need_soon(book, question)), 6000)

    def test_long_chains_shown_at_both_ends(self):
        chance = random.Random(155)
        tables = {name: (2, list(zip(chance.sample(range(32), 25), chance.sample(range(32), 25))))
                  for name in ("ta", "tb", "tc", "td")}
        book, question = asked("find a e some b c d : ta(a,b), tb(b,c), tc(c,d), td(d,e)", tables)
        self.assertLess(len(self.need_soon(book, question)), 6000)

    def test_names_that_have_nothing_to_do_with_one_another(self):
        line = {"line": (1, [(worth,) for worth in range(5, 25)]), "none": (1, [])}
        ties = "line(a), line(b), line(c), line(d), line(e)"
        self.need_soon(*asked("find a some b c d e : " + ties, line))
        self.need_soon(*asked("find a some b c d e : " + ties + ", a < b, b < c, c < a", line))
        self.need_soon(*asked("find a b c d e : " + ties + ", none(a)", line))
        self.need_soon(*asked("find a b some c d e : " + ties + ", a < c, c < d, d < b", line))


if __name__ == "__main__":
    unittest.main()
