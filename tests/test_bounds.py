"""[21], [22] Weights, packings, the measure and the worst rows."""

import random
import unittest
from fractions import Fraction
from itertools import product
from math import gcd

from tests.helper import book_of, fitting, let_rows, random_question, random_tables
from voidquilt.bounds import covers, measure, packing, packs, weights, worst
from voidquilt.errors import BadPower, BadQuestion
from voidquilt.tally import counted
from voidquilt.tongue import read_question

LETTERS = "find a b some c : edge(a,b), edge(b,c), mark(c), a < b"
TEXTS = ["find a : mark(a)", "find a b : edge(a,b)", "find a b : mark(a), mark(b)", "find a b : edge(a,b), mark(a)",
         "find a b c : e(a,b), e(b,c), e(c,a)", "find a b c d : e(a,b), e(b,c), e(c,d), e(d,a)",
         "find a b c d e : e(a,b), e(b,c), e(c,d), e(d,e), e(e,a)", "find a b c d e : e(a,b), e(a,c), e(a,d), e(a,e)",
         "find a b c d : t(a,b,c), t(b,c,d), t(c,d,a), t(d,a,b)", "find a b c : e(a,b), e(b,c), e(c,a), e(7,7)",
         "find a b c d e : q(a,b,c,d), q(a,b,c,e), q(a,b,d,e), q(a,c,d,e), q(b,c,d,e)",
         "find a b c d e : t(a,b,c), e(c,d), e(d,e), e(e,c)", "find a : mark(a), mark(7)",
         "find a b c : t(a,b,c), e(a,b), e(b,c), a < b", "find a b c d e : t(a,b,c), t(c,d,e), t(a,d,e), e(b,d)"]


def part(value):
    return (value.numerator, value.denominator)


def total(parts):
    return sum((Fraction(*one) for one in parts), Fraction(0))


def covers_by_hand(question, parts):
    names, _, ties, _ = question
    return len(parts) == len(ties) and all(Fraction(*one) >= 0 for one in parts) and all(
        total(one for one, (_, terms) in zip(parts, ties) if name in terms) >= 1 for name in names)


def packs_by_hand(question, parts):
    names, _, ties, _ = question
    return len(parts) == len(names) and all(Fraction(*one) >= 0 for one in parts) and all(
        total(one for one, name in zip(parts, names) if name in terms) <= 1 for _, terms in ties)


def any_question(chance):
    """A question of up to five names and six ties, most of them of two names."""
    tables = {"one": (1, []), "edge": (2, []), "tri": (3, []), "quad": (4, [])}
    names, many, ties, less = random_question(chance, tables, range(32), 5)
    more = [("edge", (chance.choice(names), chance.choice(names))) for _ in range(chance.randint(0, 6 - len(ties)))]
    return (names, many, ties + tuple(more), less)


class PartsCase(unittest.TestCase):
    def need_parts(self, parts, many):
        self.assertIs(type(parts), list)
        self.assertEqual(len(parts), many)
        for one in parts:
            self.need_part(one)

    def need_part(self, one):
        self.assertIs(type(one), tuple)
        above, below = one
        self.assertEqual((type(above), type(below)), (int, int))
        self.assertGreaterEqual(above, 0)
        self.assertGreaterEqual(below, 1)
        self.assertEqual(gcd(above, below), 1)


class CoversTest(PartsCase):
    def test_told_ones(self):
        question = read_question("find a b c : e(a,b), e(b,c), e(c,a)")
        for parts, expected in (([(1, 2)] * 3, True), ([(1, 1), (1, 1), (0, 1)], True),
                                ([(1, 1), (0, 1), (0, 1)], False),
                                ([(1, 2), (1, 2), (499, 1000)], False), ([(1, 3), (2, 3), (2, 3)], True),
                                ([(1, 3), (2, 3), (1, 3)], False), ([(5, 1)] * 3, True), ([(0, 1)] * 3, False),
                                ([(2, 1), (2, 1), (-1, 2)], False), ([(2, 1), (-1, 1), (2, 1)], False),
                                ([(1, 1)] * 2, False), ([(1, 1)] * 4, False), ([], False)):
            kept = list(parts)
            self.assertIs(covers(question, parts), expected, parts)
            self.assertEqual(parts, kept)

    def test_great_numbers(self):
        question = read_question("find a : mark(a), mark(a)")
        most = 10 ** 30 - 1
        self.assertIs(covers(question, [(1, most), (most - 1, most)]), True)
        self.assertIs(covers(question, [(1, most), (most - 2, most)]), False)
        self.assertIs(packs(question, [(most - 1, most)]), True)
        self.assertIs(packs(question, [(most, most - 1)]), False)
        self.assertIs(packs(question, [(-1, most)]), False)

    def test_ties_without_names_cover_nothing(self):
        question = read_question("find a : mark(a), mark(7)")
        self.assertIs(covers(question, [(1, 1), (0, 1)]), True)
        self.assertIs(covers(question, [(0, 1), (9, 1)]), False)

    def test_packs(self):
        question = read_question("find a b c : e(a,b), e(b,c), e(c,a)")
        for parts, expected in (([(1, 2)] * 3, True), ([(1, 1), (0, 1), (0, 1)], True), ([(0, 1)] * 3, True),
                                ([(1, 2), (1, 2), (501, 1000)], False), ([(1, 3), (2, 3), (1, 3)], True),
                                ([(1, 1), (0, 1), (1, 1000)], False), ([(-1, 2), (0, 1), (0, 1)], False),
                                ([(0, 1), (-3, 1), (1, 1)], False), ([(0, 1)] * 2, False), ([(0, 1)] * 4, False),
                                ([], False)):
            kept = list(parts)
            self.assertIs(packs(question, parts), expected, parts)
            self.assertEqual(parts, kept)

    def test_any_parts(self):
        chance = random.Random(211)
        found = [0, 0]
        for _ in range(600):
            question = any_question(chance)
            for ask, by_hand, many in ((covers, covers_by_hand, len(question[2])),
                                       (packs, packs_by_hand, len(question[0]))):
                above = [0, 0, 1, 1, 2, 3, -1] if chance.random() < 0.1 else [0, 1, 1, 2]
                below = [2, 3, 4, 5] if ask == packs else [1, 2, 3]
                count = max(0, many + chance.choice([0] * 8 + [1, -1]))
                parts = [part(Fraction(chance.choice(above), chance.choice(below))) for _ in range(count)]
                told = ask(question, parts)
                self.assertIs(told, by_hand(question, parts), (question, parts))
                found[told] += 1
        self.assertGreater(min(found), 100)

    def test_names_twice_in_a_tie_count_once(self):
        question = read_question("find a : edge(a,a)")
        self.assertIs(packs(question, [(1, 1)]), True)
        self.assertIs(covers(question, [(1, 2)]), False)


class MeasureTest(PartsCase):
    def need_best(self, question):
        cover, pack, both = weights(question), packing(question), measure(question)
        self.need_parts(cover, len(question[2]))
        self.need_parts(pack, len(question[0]))
        self.need_part(both)
        self.assertTrue(covers_by_hand(question, cover) and covers(question, cover), question)
        self.assertTrue(packs_by_hand(question, pack) and packs(question, pack), question)
        # No cover has a lesser sum than any packing, so equal sums are the least and the greatest one.
        self.assertEqual(total(cover), total(pack))
        self.assertEqual(part(total(pack)), both)
        return both

    def test_told_ones(self):
        measures = [(1, 1), (1, 1), (2, 1), (1, 1), (3, 2), (2, 1), (5, 2), (4, 1), (4, 3), (3, 2), (5, 4), (2, 1),
                    (1, 1), (1, 1), (2, 1)]
        self.assertEqual(len(measures), len(TEXTS))
        for text, expected in zip(TEXTS, measures):
            self.assertEqual(self.need_best(read_question(text)), expected, text)

    def test_any_questions(self):
        chance = random.Random(212)
        broken = 0
        for _ in range(800):
            broken += self.need_best(any_question(chance))[1] > 1
        self.assertGreater(broken, 20)

    def test_told_lists_are_new_ones(self):
        question = read_question(LETTERS)
        for ask in (weights, packing):
            told = ask(question)
            kept = list(told)
            told.clear()
            self.assertEqual(ask(question), kept)

    def test_no_more_points_than_the_product_of_powers(self):
        chance = random.Random(213)
        for _ in range(120):
            worths = chance.sample(range(32), chance.choice([2, 3, 4]))
            tables = random_tables(chance, worths, 20)
            book, question = book_of(tables), random_question(chance, tables, worths)
            many = len(fitting(book, question, worths))
            for parts in (weights(question), [(1, 1)] * len(question[2])):
                common = 1
                for _, below in parts:
                    common = common * below // gcd(common, below)
                bound = 1
                for tie, (above, below) in enumerate(parts):
                    bound *= len(let_rows(book, question, tie)) ** (above * common // below)
                self.assertLessEqual(many ** common, bound, question)

    def test_refusals_and_handing_in_by_name(self):
        for thing in (None, 0, "", LETTERS, (), (("a",), 1, (), ()), (("a", "b"), 1, (("gone", ("a",)),), ())):
            for ask in (weights, packing, measure):
                self.assertRaises(BadQuestion, ask, thing)
            for ask in (covers, packs, worst):
                self.assertRaises(BadQuestion, ask, thing, [])
            self.assertRaises(BadQuestion, worst, thing, [], power=9)
        question = read_question(LETTERS)
        self.assertIs(covers(weights=[(1, 1)] * 3, question=question), True)
        self.assertIs(packs(packing=[(0, 1)] * 3, question=question), True)
        self.assertEqual(worst(power=0, packing=[(0, 1)] * 3, question=question), [[(0, 0)], [(0, 0)], [(0,)]])
        self.assertEqual((weights(question=question), packing(question=question), measure(question=question)),
                         (weights(question), packing(question), measure(question)))


class WorstTest(PartsCase):
    def need_worst(self, question, parts, power):
        """The told rows by [22], and as many points as it says."""
        kept = list(parts)
        told = worst(question, parts, power=power)
        self.assertEqual(parts, kept)
        names, _, ties, _ = question
        free = {name: int(Fraction(*one) * power) for name, one in zip(names, parts)}
        for (_, terms), rows in zip(ties, told):
            own = [name for name in names if name in terms]
            self.assertEqual(rows, list(product(*[range(2 ** free[name]) for name in own])))
            self.assertLessEqual(len(rows), 2 ** power)
        self.assertEqual(len(told), len(ties))
        return told

    def filled(self, question, told):
        """A book in whose tables, one for each tie, just the told rows are let by, and the question of these."""
        names, many, ties, _ = question
        tables, own_ties = {}, []
        for at, rows in enumerate(told):
            own = tuple(name for name in names if name in ties[at][1])
            tables["abcdef"[at]] = (max(1, len(own)), rows if own else [(7,)])
            own_ties.append(("abcdef"[at], own or (7,)))
        return book_of(tables), (names, many, tuple(own_ties), ())

    def test_told_ones(self):
        question = read_question("find a b c : e(a,b), e(b,c), e(c,a), e(3,4)")
        half = [(1, 2)] * 3
        four = [(0, 0), (0, 1), (1, 0), (1, 1)]
        self.assertEqual(worst(question, half, power=2), [four, four, four, [()]])
        self.assertEqual(worst(question, half, power=0), [[(0, 0)]] * 3 + [[()]])
        self.assertEqual(worst(question, half), [list(product(range(4), repeat=2))] * 3 + [[()]])
        self.assertEqual(worst(question, half), worst(question, half, power=4))
        self.assertEqual(worst(question, [(1, 1), (0, 1), (0, 1)], power=5),
                         [[(worth, 0) for worth in range(32)], [(0, 0)], [(worth, 0) for worth in range(32)], [()]])
        self.assertEqual(worst(read_question("find b a : e(a,b)"), [(1, 2), (1, 4)]),
                         [[(one, two) for one in range(4) for two in range(2)]])

    def test_as_many_points_as_the_document_says(self):
        for text in TEXTS:
            question = read_question(text)
            parts = packing(question)
            for power in range(6):
                if all(above * power % below == 0 for above, below in parts):
                    told = self.need_worst(question, parts, power)
                    book, plain_question = self.filled(question, told)
                    many = 2 ** int(power * total(parts))
                    self.assertEqual(counted(book, plain_question), many, (text, power))

    def test_any_packings_that_fit(self):
        chance = random.Random(221)
        fine = 0
        for _ in range(300):
            question = any_question(chance)
            below = chance.choice([1, 2, 3, 4, 5])
            parts = [part(Fraction(chance.randint(0, below), below)) for _ in question[0]]
            if packs(question, parts):
                for power in range(6):
                    if all(above * power % under == 0 for above, under in parts):
                        told = self.need_worst(question, parts, power)
                        book, plain_question = self.filled(question, told)
                        self.assertEqual(counted(book, plain_question), 2 ** int(power * total(parts)))
                        fine += 1
                    else:
                        self.assertRaises(BadPower, worst, question, parts, power=power)
        self.assertGreater(fine, 100)

    def test_bad_powers(self):
        question = read_question("find a b c : e(a,b), e(b,c), e(c,a)")
        for parts in ([(1, 2)] * 3, [(0, 1)] * 3):
            for power in (-1, 6, 7, 10 ** 30 - 1, -(10 ** 29), True, False, None, "4", "", 4.0, (4,), [4], (), {}):
                with self.assertRaises(BadPower) as caught:
                    worst(question, parts, power=power)
                self.assertEqual(caught.exception.called, "BadPower")
        for power in (1, 3, 5):
            self.assertRaises(BadPower, worst, question, [(1, 2)] * 3, power=power)
        self.assertRaises(BadPower, worst, question, [(1, 3), (0, 1), (0, 1)])
        self.assertRaises(BadPower, worst, question, [(0, 1), (0, 1), (2, 5)])
        self.assertEqual(len(worst(question, [(0, 1), (0, 1), (2, 5)], power=5)[1]), 4)

    def test_the_power_is_handed_in_by_name(self):
        self.assertRaises(TypeError, worst, read_question("find a : mark(a)"), [(1, 1)], 4)

    def test_told_lists_are_new_ones(self):
        question = read_question("find a b : e(a,b), e(a,b), e(7,7)")
        told = worst(question, [(1, 2), (1, 2)])
        expected = [list(rows) for rows in told]
        told[0].clear()
        self.assertEqual(told[1], expected[1])
        told[2].append(None)
        told.pop()
        self.assertEqual(worst(question, [(1, 2), (1, 2)]), expected)


if __name__ == "__main__":
    unittest.main()
