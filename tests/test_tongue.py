"""[11] What is a question, [12] questions written and read."""

import random
import re
import unittest

from tests.helper import NO_WORTHS, random_question, random_tables
from voidquilt.errors import BadQuestion, BadText
from voidquilt.tongue import is_question, question_text, read_question

TOLD_TEXT = "find a b some c : edge(a,b), edge(b,c), mark(c,7), a < b"
TOLD = (("a", "b", "c"), 2, (("edge", ("a", "b")), ("edge", ("b", "c")), ("mark", ("c", 7))), (("a", "b"),))

# Questions with the texts that they are written as.
WRITTEN = [
    (TOLD_TEXT, TOLD),
    ("find a : e(a)", (("a",), 1, (("e", ("a",)),), ())),
    ("find abcd : abcdefgh(abcd)", (("abcd",), 1, (("abcdefgh", ("abcd",)),), ())),
    ("find a b c d e : t(a,b,c,d), u(e)", (("a", "b", "c", "d", "e"), 5, (("t", ("a", "b", "c", "d")), ("u", ("e",))), ())),
    ("find a some b c d e : t(a,b,c,d), t(e,0,31,e)",
     (("a", "b", "c", "d", "e"), 1, (("t", ("a", "b", "c", "d")), ("t", ("e", 0, 31, "e"))), ())),
    ("find z y : e(y,z), e(z,y), e(y,y), e(1,1), e(0,2), e(z,z), z < y, y < z, z < y",
     (("z", "y"), 2, (("e", ("y", "z")), ("e", ("z", "y")), ("e", ("y", "y")), ("e", (1, 1)), ("e", (0, 2)),
                      ("e", ("z", "z"))), (("z", "y"), ("y", "z"), ("z", "y")))),
    ("find fin som : finds(fin), somes(som)", (("fin", "som"), 2, (("finds", ("fin",)), ("somes", ("som",))), ())),
]

BLANK = "  "


def changed(question, at, part):
    return question[:at] + (part,) + question[at + 1:]


def no_questions():
    """Tuples that are nearly questions, and other things."""
    things = [None, 0, 4, True, False, "", TOLD_TEXT, "find a : e(a)", 10 ** 29, (), (TOLD,), TOLD[:3], TOLD + ((),),
              (None,) * 4, ([],) * 4, ((),) * 4, ({},) * 4, (TOLD,) * 4, TOLD[::-1]]
    names = [None, 3, "abc", "a", ["a", "b", "c"], (), ("a", "b"), ("a", "b", "a"), ("a", "b", "c", "c"), ("a", "b", "d"),
             ("a", "b", "c", "d"), ("a", "b", "c", "find"), ("a", "b", "some"), ("a", "b", "abcde"), ("a", "b", ""),
             ("a", "b", "C"), ("a", "b", "c1"), ("a", "b", 3), ("a", "b", None), ("a", "b", ["c"]), ("a", "b", ("c",)),
             ("a", "b", "c", "d", "e", "f")]
    things += [changed(TOLD, 0, thing) for thing in names]
    things += [changed(TOLD, 1, thing) for thing in (0, 4, -1, 5, True, False, None, "2", 2.0, [2], (2,), 10 ** 29)]
    ties = [None, (), [], list(TOLD[2]), "edge(a,b)", TOLD[2] * 3, ("edge", ("a", "b", "c")), TOLD[2][:2] + (None,),
            TOLD[2][:1], TOLD[2][1:]]
    tie = [None, 3, "mark", (), ("mark",), ("mark", ("c",), ()), ["mark", ("c",)], ("mark", ["c"]), ("mark", ()),
           ("mark", "c"), ("mark", None), ("mark", 7), ("mark", ("c",) * 5), ("", ("c",)), ("abcdefghi", ("c",)),
           ("find", ("c",)), ("some", ("c",)), ("Mark", ("c",)), (7, ("c",)), (None, ("c",)), (["mark"], ("c",)),
           ("mark", ("c", "d")), ("mark", ("c", "mark")), ("mark", ("c", ("c",))), ("mark", (["c"], "c"))]
    tie += [("mark", ("c", bad)) for bad in NO_WORTHS]
    things += [changed(TOLD, 2, thing) for thing in ties + [TOLD[2][:2] + (thing,) for thing in tie]]
    less = [None, 0, [], [("a", "b")], ("a", "b"), "ab", TOLD[3] * 4, (("a", "a"),), (("a", "d"),), (("d", "a"),),
            (("a",),), (("a", "b", "c"),), (["a", "b"],), ("ab",), (("a", 3),), ((3, "a"),), ((3, 4),), (("a", ["b"]),),
            (("a", None),), (None,), (("a", "b"), ("c", "c")), (("a", "b"), None)]
    return things + [changed(TOLD, 3, thing) for thing in less]


def parts_by_hand(text):
    found = [(match.start(), match.group()) for match in re.finditer(r"[a-z]+|[0-9]+|[^ ]", text)]
    return found + [(len(text), "")]


def fine_name(part, most):
    return re.fullmatch(f"[a-z]{{1,{most}}}", part) is not None and part not in ("find", "some")


class ByHand:
    """A second reader: for each word, number or sign it knows whether it can stand where it stands."""

    def __init__(self, text):
        self.parts = parts_by_hand(text)
        self.names, self.many, self.ties, self.less = [], None, [], []
        self.state = self.first

    def read(self):
        """The question, or the place of the first part that can't stand there."""
        for number, (at, part) in enumerate(self.parts):
            behind = self.parts[number + 1][1] if part else ""
            state = self.state(part, behind)
            if state is None:
                return at
            self.state = state
        if set(self.names) - {term for _, terms in self.ties for term in terms}:
            return 0
        ties = tuple((table, tuple(terms)) for table, terms in self.ties)
        return (tuple(self.names), self.many or len(self.names), ties, tuple(self.less))

    def first(self, part, _):
        return self.name if part == "find" else None

    def name(self, part, _):
        if fine_name(part, 4) and part not in self.names and len(self.names) < 5:
            self.names.append(part)
            return self.name_or_more
        return None

    def name_or_more(self, part, behind):
        if part == ":":
            return self.clause
        if part == "some" and self.many is None:
            self.many = len(self.names)
            return self.name
        return self.name(part, behind)

    def clause(self, part, behind):
        if behind == "<":
            if not self.ties or len(self.less) == 3 or part not in self.names:
                return None
            self.less.append((part,))
            return self.sign
        if self.less or len(self.ties) == 6 or not fine_name(part, 8):
            return None
        self.ties.append((part, []))
        return lambda part, _: self.term if part == "(" else None

    def term(self, part, _):
        if part not in self.names and not (re.fullmatch("0|[1-9][0-9]?", part) and int(part) < 32):
            return None
        self.ties[-1][1].append(int(part) if part.isdigit() else part)
        return self.term_end

    def term_end(self, part, _):
        if part == "," and len(self.ties[-1][1]) < 4:
            return self.term
        return self.clause_end if part == ")" else None

    def sign(self, part, _):
        return self.second if part == "<" else None

    def second(self, part, _):
        if part not in self.names or self.less[-1] == (part,):
            return None
        self.less[-1] += (part,)
        return self.clause_end

    def clause_end(self, part, _):
        return {",": self.clause, "": self.clause_end}.get(part)


def read_or_place(text):
    try:
        return read_question(text)
    except BadText as refusal:
        return refusal.at


class QuestionTest(unittest.TestCase):
    def test_questions(self):
        for _, question in WRITTEN:
            self.assertIs(is_question(question), True, question)
        chance = random.Random(11)
        for _ in range(200):
            tables = random_tables(chance, range(32))
            self.assertIs(is_question(random_question(chance, tables, range(32))), True)

    def test_the_most_of_all(self):
        names = ("a", "bb", "ccc", "dddd", "zzzz")
        ties = (("abcdefgh", ("a", "bb", "ccc", "dddd")),) + (("z", ("zzzz", 0, 31, 31)),) * 5
        less = (("a", "bb"), ("bb", "a"), ("a", "zzzz"))
        for many in range(1, 6):
            self.assertIs(is_question((names, many, ties, less)), True)
        for many in (0, 6):
            self.assertIs(is_question((names, many, ties, less)), False)
        self.assertIs(is_question((names, 5, ties + ties[:1], less)), False)
        self.assertIs(is_question((names, 5, ties, less + less[:1])), False)

    def test_anything_else_is_none(self):
        for thing in no_questions():
            self.assertIs(is_question(thing), False, thing)

    def test_each_name_stands_in_a_tie(self):
        self.assertIs(is_question((("a", "b"), 1, (("e", ("a", 3)),), (("a", "b"),))), False)
        self.assertIs(is_question((("a", "b"), 1, (("e", ("a", 3)), ("b", ("a",))), ())), False)
        self.assertIs(is_question((("a", "b"), 1, (("e", ("a", 3)), ("b", ("b",))), (("a", "b"),))), True)

    def test_handed_in_by_name(self):
        self.assertIs(is_question(thing=TOLD), True)


class TextTest(unittest.TestCase):
    def test_told_ones(self):
        for text, question in WRITTEN:
            self.assertEqual(question_text(question), text)
            self.assertEqual(read_question(text), question)

    def test_no_questions_are_refused(self):
        for thing in no_questions():
            self.assertRaises(BadQuestion, question_text, thing)

    def test_what_is_written_is_read_as_the_same_question(self):
        chance = random.Random(12)
        for _ in range(300):
            question = random_question(chance, random_tables(chance, range(32)), range(32))
            told = read_question(question_text(question))
            self.assertEqual(told, question)
            self.assertIs(is_question(told), True)

    def test_handed_in_by_name(self):
        self.assertEqual(question_text(question=TOLD), TOLD_TEXT)
        self.assertEqual(read_question(text=TOLD_TEXT), TOLD)


class ReadTest(unittest.TestCase):
    def need_place(self, text, at):
        with self.assertRaises(BadText) as caught:
            read_question(text)
        self.assertEqual(caught.exception.at, at, text)
        self.assertEqual(ByHand(text).read(), at, text)

    def need_marked(self, marked):
        """The text without the mark ! is refused at the mark's place."""
        self.need_place(marked.replace("!", ""), marked.index("!"))

    def test_the_second_reader_reads_the_same(self):
        for text, question in WRITTEN:
            self.assertEqual(ByHand(text).read(), question)

    def test_blanks_anywhere_and_nowhere(self):
        for text, question in WRITTEN:
            parts = [part for _, part in parts_by_hand(text)]
            tight = ""
            for part in parts:
                tight += " " + part if tight[-1:].isalnum() and part[:1].isalnum() else part
            self.assertNotIn(" :", tight)
            for spread in (tight, " ".join(parts), BLANK + BLANK.join(parts), "   " + text + "    "):
                self.assertEqual(read_question(spread), question, spread)
        self.assertEqual(read_question("find a b some c:edge(a,b),edge(b,c),mark(c,7),a<b"), TOLD)
        self.assertEqual(read_question(" find  a b  some c  :  edge ( a , b ) , edge (b ,c) ,mark( c , 7 ) , a  <  b "), TOLD)

    def test_a_line_feed_is_no_blank(self):
        for marked in ("!\nfind a : e(a)", "find a !\n: e(a)", "find a : e(a)!\n", "find a!\nb : e(a,b)"):
            self.need_marked(marked)

    def test_ends_too_early(self):
        for text in ("", " ", "   ", "find", "find ", "find a", "find a  ", "find a some", "find a some ", "find a :",
                     "find a : ", "find a : e", "find a : e(", "find a : e(a", "find a : e(a,", "find a : e(a,3",
                     "find a : e(a),", "find a : e(a) , ", "find a b : e(a,b), a <", "find a b : e(a,b), a < ",
                     "find a b : e(a,b), a < b,", "find a b : e(a,b), a", "find a b c d e some",
                     "find a b : e(a,b), a < b, a < b, a < b,", "find a : e(a), e(a), e(a), e(a), e(a), e(a),"):
            self.need_place(text, len(text))

    def test_the_beginning(self):
        for marked in ("!a : e(a)", "!: e(a)", "!some a : e(a)", "!finda : e(a)", "!fin a : e(a)", "  !FIND a : e(a)",
                       "!Find a : e(a)", "!7", " !7find a : e(a)", "!, find a : e(a)"):
            self.need_marked(marked)

    def test_names(self):
        for marked in ("find !: e(a)", "find !some a : e(a)", "find !find : e(a)", "find a !find : e(a)", "find !7 : e(7)",
                       "find a!7 : e(a)", "find !abcde : e(abcde)", "find a !abcde : e(a)", "find a !a : e(a)",
                       "find a b !a : e(a,b)", "find a some !a : e(a)", "find a some b !b : e(a,b)",
                       "find a !, b : e(a,b)", "find a !B : e(a)", "find a!_b : e(a)", "find a some !: e(a)",
                       "find a some !some b : e(a,b)", "find a some b !some c : e(a,b,c)", "find a some b !find : e(a,b)",
                       "find a some !find : e(a)", "find a b c d e !f : e(a,b,c,d), e(e,f,f,f)",
                       "find a b c some d e !f : e(a,b,c,d), e(e,f,f,f)", "find a b c d e some !f : e(a,b,c,d), e(e)",
                       "find a b c d e some !: e(a,b,c,d), e(e)", "find a b c d e some !some : e(a,b,c,d), e(e)",
                       "find a b c d e !f : x", "find a !(b) : e(a,b)", "find a !< b : e(a,b)"):
            self.need_marked(marked)
        self.assertEqual(read_question("find abcd a : e(a,abcd)")[0], ("abcd", "a"))

    def test_ties(self):
        for marked in ("find a : !(a)", "find a : !, e(a)", "find a : !: e(a)", "find a : !find(a)", "find a : !some(a)",
                       "find a : !abcdefghi(a)", "find a : !7(a)", "find a : !E(a)", "find a : e !a)", "find a : e!:",
                       "find a : e(!)", "find a : e(!,a)", "find a : e(a,!)", "find a : e(a!(", "find a : e(a !a)",
                       "find a : e(a!7)", "find a : e(!b)", "find a : e(a,!b)", "find a : e(a,!e)", "find a : e(!find)",
                       "find a : e(!some)", "find a : e(!abcde)", "find a : e(a,!32)", "find a : e(a,!07)",
                       "find a : e(a,!00)", "find a : e(a,!031)", "find a : e(a,!100)", "find a : e(a,!" + "9" * 300 + ")",
                       "find a : e(a,!-1)", "find a : e(a,!+1)", "find a : e(a,3!.0)", "find a : e(a,3!a)",
                       "find a : e(a,a,a,a!,a)", "find a : e(a,0,0,0!,0)", "find a : e(a,0,0,0 !, 0)",
                       "find a : e(a)!)", "find a : e(a) !e(a)", "find a : e(a) !: e(a)", "find a : e(a)!7",
                       "find a : e(a), !, e(a)", "find a : e(a), !(a)", "find a : e(a), !find(a)",
                       "find a : e(a), e(a), e(a), e(a), e(a), e(a), !e(a)", "find a : e(a), e(a!",
                       "find a : e(a), e(a), e(a), e(a), e(a), e(a), !7"):
            self.need_marked(marked)
        self.assertEqual(read_question("find a : e(a,0,9,31)")[2], (("e", ("a", 0, 9, 31)),))

    def test_pairs(self):
        for marked in ("find a b : !a < b, e(a,b)", "find a b : !a < b", "find a b : !e < b", "find a b : !7 < b",
                       "find a b : !< < b", "find a b : e(a,b), !c < b", "find a b : e(a,b), !e < b",
                       "find a b : e(a,b), !7 < b", "find a b : e(a,b), !abcde < b", "find a b : e(a,b), !find < b",
                       "find a b : e(a,b), !< b", "find a b : e(a,b), a < !a", "find a b : e(a,b), a < !c",
                       "find a b : e(a,b), a < !7", "find a b : e(a,b), a < !, b", "find a b : e(a,b), a < !<",
                       "find a b : e(a,b), a < !some", "find a b : e(a,b), a !b", "find a b : e(a,b), a !> b",
                       "find a b : e(a,b), a < b !a", "find a b : e(a,b), a < b !< a", "find a b : e(a,b), a < b!)",
                       "find a b : e(a,b), a < b, !e(a,b)", "find a b : e(a,b), a < b, !find(a)",
                       "find a b : e(a,b), a < b, !, e(a,b)", "find a b : e(a,b), a < b, b < a, a < b, !a < b",
                       "find a b : e(a,b), a < b, b < a, a < b, !e(a,b)", "find a b : e(a,b), a < b, b < a, a < b, !c < b",
                       "find a b : e(a,b), a < b, b < a, a < b, !, a", "find a b : e(a,b), !( < a", "find a b : !( < a",
                       "find a b : e(a,b), a < b, !a", "find a b : e(a,b) !< b", "find a b : e(a,b), a!= b"):
            self.need_marked(marked)

    def test_a_name_that_stands_in_no_tie(self):
        for text in ("find a b : e(a)", "  find a some b : e(a,a)", "find a b c : e(a,b), a < c", "find a e : e(a)"):
            self.need_place(text, 0)
        self.need_marked("find a b : e(a)!)")
        self.need_marked("find a b : e(a), !c < a")
        self.need_place("find a b : e(a),", 16)

    def test_each_end_cut_off(self):
        for text, _ in WRITTEN:
            for count in range(len(text)):
                self.assertEqual(read_or_place(text[:count]), ByHand(text[:count]).read(), text[:count])

    def test_each_sign_left_out_put_in_or_exchanged(self):
        for text, _ in WRITTEN:
            for at in range(len(text) + 1):
                for sign in ["", "a", "b", "e", "z", "0", "3", "7", " ", ",", ":", "(", ")", "<", "\n", "A", "*", "~", "-"]:
                    for other in (text[:at] + sign + text[at:], text[:at] + sign + text[at + 1:]):
                        self.assertEqual(read_or_place(other), ByHand(other).read(), other)

    def test_each_part_left_out_put_in_exchanged_or_doubled(self):
        more = ["find", "some", "a", "b", "e", "edge", "abcde", "abcdefghi", "7", "32", "07", ",", ":", "(", ")", "<", ""]
        for text, _ in WRITTEN:
            parts = [part for _, part in parts_by_hand(text)][:-1]
            for at in range(len(parts) + 1):
                for part in more:
                    for made in (parts[:at] + [part] + parts[at:], parts[:at] + [part] + parts[at + 1:],
                                 parts[:at] + [part, part] + parts[at:]):
                        other = " ".join(made)
                        self.assertEqual(read_or_place(other), ByHand(other).read(), other)

    def test_any_parts_in_a_row(self):
        chance = random.Random(13)
        grown = 0
        for _ in range(3000):
            parts = ["find"] + [chance.choice(["a", "b"]) for _ in range(chance.randint(0, 3))]
            parts += chance.choice([[], [":"], [":", "e", "(", "a", ")"], [":", "e", "(", "a", ",", "b", ")", ","]])
            parts += [chance.choice(["a", "b", "e", "some", "7", ",", ":", "(", ")", "<"])
                      for _ in range(chance.randint(0, 12))]
            text = " ".join(parts)
            expected = ByHand(text).read()
            grown += isinstance(expected, tuple)
            self.assertEqual(read_or_place(text), expected, text)
        self.assertGreater(grown, 0)


if __name__ == "__main__":
    unittest.main()
