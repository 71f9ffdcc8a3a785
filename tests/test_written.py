"""[18] Papers written and read."""

import random
import re
import unittest

from tests.helper import BEGINNINGS, MOST_LONG, paper_cases
from voidquilt.errors import BadText
from voidquilt.papers import papered
from voidquilt.written import paper_text, read_paper

SIGNS = [chr(code) for code in range(32, 127) if chr(code) != "%"] + ["\n"]
NUMBER = r"(0|[1-9][0-9]{0,3})"
WORTH = r"(0|[1-9]|[12][0-9]|3[01])"
STEPS = [("empty", 0, ("", "01", "11111")), ("less", 2, ("1", "", "00000")), ("told", (0, 31, 10)),
         ("joined", 0, 9999, ("", "", "")), ("joined", 10, 3, ("0", "10101", "1"))]
TEXT = ("empty 0 *,01,11111\n" "less 2 1,*,00000\n" "told 0 31 10\n" "joined 0 9999 *,*,*\n"
        "joined 10 3 0,10101,1\n")


def row_by_hand(row, many):
    """The step that a row writes, by a pattern, or None."""
    box = "(" + ",".join([r"(?:\*|[01]{1,5})"] * many) + ")"
    if re.fullmatch("told" + (" " + WORTH) * many, row):
        return ("told", tuple(map(int, row.split()[1:])))
    for word, count in (("empty", 1), ("less", 1), ("joined", 2)):
        found = re.fullmatch(word + (" " + NUMBER) * count + " " + box, row)
        if found:
            beginnings = tuple(part.replace("*", "") for part in found[count + 1].split(","))
            return (word, *[int(found[at + 1]) for at in range(count)], beginnings)
    return None


def read_by_hand(text, many):
    """The steps that a text writes, or the number of the first row that isn't so written."""
    steps = []
    for at, row in enumerate(re.findall(r"[^\n]*\n|[^\n]+\Z", text)):
        step = row_by_hand(row[:-1], many) if row.endswith("\n") else None
        if step is None:
            return at
        steps.append(step)
    return steps


class WrittenCase(unittest.TestCase):
    def need_refused(self, text, many, at):
        with self.assertRaises(BadText) as caught:
            read_paper(text, many)
        self.assertEqual((caught.exception.at, caught.exception.called), (at, "BadText"), text)

    def need_as_by_hand(self, text, many):
        expected = read_by_hand(text, many)
        if isinstance(expected, int):
            self.need_refused(text, many, expected)
        else:
            told = read_paper(text, many)
            self.assertIs(type(told), list)
            self.assertEqual(told, expected)
            self.assertEqual(paper_text(told), text)


class ToldTest(WrittenCase):
    def test_all_steps(self):
        self.assertEqual(paper_text(STEPS), TEXT)
        self.assertEqual(read_paper(TEXT, 3), STEPS)

    def test_the_empty_text(self):
        self.assertEqual(paper_text([]), "")
        for many in range(1, 6):
            self.assertEqual(read_paper("", many), [])

    def test_kinds_of_what_is_read(self):
        for step in read_paper(TEXT, 3):
            self.assertIs(type(step), tuple)
            for thing in step:
                self.assertIn(type(thing), (str, int, tuple))

    def test_rooms_of_one_to_five_places(self):
        for many in range(1, 6):
            steps = [("empty", 5, ("",) * many), ("less", 0, ("0",) * many), ("told", (31,) * many),
                     ("joined", 1, 0, ("10",) * many)]
            text = paper_text(steps)
            self.assertEqual(text, f"empty 5 {','.join('*' * many)}\nless 0 {','.join('0' * many)}\n"
                             f"told{' 31' * many}\njoined 1 0 {','.join(['10'] * many)}\n")
            self.assertEqual(read_paper(text, many), steps)
            for other in range(1, 7):
                if other != many:
                    for row in text.splitlines(keepends=True):
                        self.need_refused(row, other, 0)

    def test_every_beginning_and_worth(self):
        steps = [("empty", 0, (beginning,)) for beginning in BEGINNINGS] + [("told", (worth,)) for worth in range(32)]
        self.assertEqual(read_paper(paper_text(steps), 1), steps)

    def test_what_is_handed_in_stays_and_told_lists_are_new(self):
        steps = list(STEPS)
        paper_text(steps)
        self.assertEqual(steps, STEPS)
        told = read_paper(TEXT, 3)
        told.clear()
        self.assertEqual(read_paper(TEXT, 3), STEPS)

    def test_handed_in_by_name(self):
        self.assertEqual(paper_text(paper=STEPS), TEXT)
        self.assertEqual(read_paper(many=3, text=TEXT), STEPS)

    def test_any_papers(self):
        for book, question, _ in paper_cases(random.Random(181), 60):
            paper = papered(book, question)
            text = paper_text(paper)
            self.assertEqual(text.count("\n"), len(paper))
            self.need_as_by_hand(text, len(question[0]))
            self.assertEqual(read_paper(text, len(question[0])), paper)

    def test_numbers_of_more_than_four_figures_are_written_all_the_same(self):
        self.assertEqual(paper_text([("joined", 12345, 0, ("",))]), "joined 12345 0 *\n")
        self.need_refused("joined 12345 0 *\n", 1, 0)


class BadTextTest(WrittenCase):
    def test_rows(self):
        for row in ("", " ", "empty", "empty 0", "empty 0 ", "empty 0 * ", " empty 0 *", "empty  0 *", "empty 0  *",
                    "empty 0 *,*", "empty 0 *,", "empty 0 ,*", "empty 0 ,", "empty * 0", "empty *", "empty 0 * *",
                    "empty 0 0 *", "empty 00 *", "empty 01 *", "empty 0000 *", "empty 12345 *", "empty 00000 *",
                    "empty -1 *", "empty +1 *", "empty -0 *", "empty 1.0 *", "empty a *", "empty 0 **", "empty 0 0*",
                    "empty 0 *0", "empty 0 2", "empty 0 000000", "empty 0 0 0", "empty 0 (0)", "Empty 0 *", "empt 0 *",
                    "emptyy 0 *", "void 0 *", "less", "less 0", "less 00 *", "less 0 0 *", "less 12345 *", "less -1 *",
                    "told", "told ", "told *", "told 32", "told 33", "told 100", "told 9999", "told 00", "told 01",
                    "told 1 2", "told  1", "told 1 ", "told -1", "told a", "told 0 *", "told,0", "joined", "joined 0",
                    "joined 0 *", "joined 0 1", "joined 0 1 2 *", "joined 0 1 * *", "joined 0 01 *", "joined 00 1 *",
                    "joined 0 10000 *", "joined 10000 0 *", "joined 0 -1 *", "joined 0,1 *", "joined * 0 1", "0", "*",
                    "empty 0 0_1", "empty 1_0 *", "told 1_0", "empty " + str(MOST_LONG) + " *", "told " + "9" * 30):
            self.need_refused(row + "\n", 1, 0)
            self.need_refused("told 3\n" + row + "\n", 1, 1)
            self.need_refused("told 3\n" + row + "\nnone\n", 1, 1)
            self.assertEqual(read_by_hand(row + "\n", 1), 0)

    def test_greatest_numbers(self):
        steps = [("empty", 9999, ("",)), ("less", 1000, ("",)), ("joined", 9999, 9999, ("",)), ("told", (31,))]
        self.assertEqual(read_paper("empty 9999 *\nless 1000 *\njoined 9999 9999 *\ntold 31\n", 1), steps)

    def test_the_last_line_feed_left_out(self):
        self.need_refused(TEXT[:-1], 3, 4)
        for many in range(len(STEPS)):
            self.need_refused(paper_text(STEPS[:many + 1])[:-1], 3, many)
        self.need_refused("x", 3, 0)
        self.need_refused("told 1", 1, 0)
        self.need_refused(" ", 1, 0)

    def test_empty_rows(self):
        self.need_refused("\n", 1, 0)
        self.need_refused("\n" + TEXT, 3, 0)
        self.need_refused(TEXT + "\n", 3, 5)
        self.need_refused("told 1\n\ntold 2\n", 1, 1)
        self.need_refused("told 1\n\n\n", 1, 1)

    def test_the_first_row_counts(self):
        self.need_refused("told 1\ntold 32\nbad\nless", 1, 1)
        self.need_refused("told 1\nless 0 *\nbad\nless", 1, 2)
        self.need_refused("told 1\nless 0 *\nless 0 *\nless 0 *", 1, 3)

    def test_each_sign_left_out_put_in_or_exchanged(self):
        text = "empty 10 *,01\nless 0 1,*\ntold 3 31\njoined 0 204 *,11011\n"
        for at in range(len(text) + 1):
            self.need_as_by_hand(text[:at] + text[at + 1:], 2)
            for sign in SIGNS:
                self.need_as_by_hand(text[:at] + sign + text[at:], 2)
                self.need_as_by_hand(text[:at] + sign + text[at + 1:], 2)

    def test_each_sign_of_a_long_paper_left_out(self):
        for at in range(len(TEXT)):
            self.need_as_by_hand(TEXT[:at] + TEXT[at + 1:], 3)
            self.need_as_by_hand(TEXT[:at], 3)

    def test_any_texts(self):
        chance = random.Random(182)
        parts = ["empty", "less", "told", "joined", " ", " ", " ", ",", "*", "0", "1", "01", "31", "32", "\n", "7"]
        for _ in range(3000):
            text = "".join(chance.choice(parts) for _ in range(chance.randint(1, 14)))
            self.need_as_by_hand(text, chance.randint(1, 3))


if __name__ == "__main__":
    unittest.main()
