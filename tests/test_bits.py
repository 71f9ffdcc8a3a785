"""[3] Worths, figures, beginnings, brothers, the shortest beginning."""

import unittest
from itertools import combinations

from tests.helper import BEGINNINGS, NO_BEGINNINGS, NO_WORTHS, figures_by_hand, under
from voidquilt import bits
from voidquilt.bits import brother, figures, shortest, span
from voidquilt.errors import BadBeginning, BadWorth


class FiguresTest(unittest.TestCase):
    def test_constants(self):
        self.assertEqual((bits.WORTHS, bits.FIGURES), (32, 5))

    def test_told_ones(self):
        self.assertEqual([figures(worth) for worth in (0, 1, 6, 16, 31)],
                         ["00000", "00001", "00110", "10000", "11111"])

    def test_all_worths(self):
        told = [figures(worth) for worth in range(32)]
        self.assertEqual(told, [figures_by_hand(worth) for worth in range(32)])
        self.assertEqual(told, sorted(set(told)))

    def test_no_worths_are_refused(self):
        for thing in NO_WORTHS:
            with self.subTest(thing=thing), self.assertRaises(BadWorth):
                figures(thing)

    def test_handed_in_by_name(self):
        self.assertEqual(figures(worth=6), "00110")


class SpanTest(unittest.TestCase):
    def test_told_ones(self):
        self.assertEqual([span(""), span("01"), span("1"), span("00110")], [(0, 32), (8, 16), (16, 32), (6, 7)])

    def test_all_beginnings(self):
        for beginning in BEGINNINGS:
            told = span(beginning)
            self.assertIsInstance(told, tuple)
            low, behind = told
            self.assertEqual(list(range(low, behind)), under(beginning), beginning)

    def test_no_beginnings_are_refused(self):
        for thing in NO_BEGINNINGS:
            with self.subTest(thing=thing), self.assertRaises(BadBeginning):
                span(thing)

    def test_any_other_sign_is_refused_at_any_place(self):
        for sign in map(chr, range(128)):
            if sign not in "01":
                for thing in (sign, sign + "01", "01" + sign, "01" + sign + "10"):
                    with self.subTest(thing=thing), self.assertRaises(BadBeginning):
                        span(thing)

    def test_handed_in_by_name(self):
        self.assertEqual(span(beginning="01"), (8, 16))


class BrotherTest(unittest.TestCase):
    def test_told_ones(self):
        self.assertEqual([brother("0"), brother("1"), brother("010"), brother("11111")],
                         ["1", "0", "011", "11110"])

    def test_all_beginnings_but_the_empty_one(self):
        for beginning in BEGINNINGS[1:]:
            told = brother(beginning)
            self.assertEqual(told[:-1], beginning[:-1])
            self.assertEqual({told[-1], beginning[-1]}, {"0", "1"})
            self.assertEqual(len(told), len(beginning))
            self.assertEqual(brother(told), beginning)

    def test_both_split_the_worths_of_the_shorter_one_evenly(self):
        for beginning in BEGINNINGS[1:]:
            mine = list(range(*span(beginning)))
            its = list(range(*span(brother(beginning))))
            self.assertEqual(len(mine), len(its))
            self.assertEqual(sorted(mine + its), list(range(*span(beginning[:-1]))))

    def test_no_beginnings_and_the_empty_one_are_refused(self):
        for thing in NO_BEGINNINGS + [""]:
            with self.subTest(thing=thing), self.assertRaises(BadBeginning):
                brother(thing)

    def test_handed_in_by_name(self):
        self.assertEqual(brother(beginning="01"), "00")


class ShortestTest(unittest.TestCase):
    def need_shortest(self, worth, worths):
        told = shortest(worth, worths)
        if worth in worths:
            self.assertIsNone(told)
            return
        self.assertIn(worth, under(told))
        self.assertFalse(set(under(told)) & set(worths), (worth, worths))
        for count in range(len(told)):
            self.assertTrue(set(under(told[:count])) & set(worths), (worth, worths))

    def test_told_ones(self):
        self.assertEqual(shortest(6, [16]), "0")
        self.assertEqual(shortest(6, [7]), "00110")
        self.assertEqual(shortest(6, [31, 8, 4]), "0011")
        self.assertEqual(shortest(0, [1, 2, 4, 8, 16]), "00000")
        self.assertIsNone(shortest(6, [5, 6, 7]))

    def test_by_no_worths_the_empty_one(self):
        for worth in range(32):
            self.assertEqual(shortest(worth, []), "")

    def test_by_one_worth(self):
        for worth in range(32):
            for other in range(32):
                self.need_shortest(worth, [other])

    def test_by_two_worths(self):
        for worth in range(0, 32, 3):
            for pair in combinations(range(32), 2):
                self.need_shortest(worth, list(pair))

    def test_by_many_worths(self):
        for worth in range(32):
            self.need_shortest(worth, list(range(32)))
            self.need_shortest(worth, [other for other in range(32) if other != worth])
            for stride in range(2, 16):
                self.need_shortest(worth, list(range(stride, 32, stride)))
                self.need_shortest(worth, list(range(31, stride, -stride)))

    def test_twice_the_same_and_two_hundred(self):
        self.assertEqual(shortest(6, [16, 16]), "0")
        self.assertEqual(shortest(6, [16, 7] * 100), "00110")
        self.assertIsNone(shortest(6, [6] * 200))

    def test_no_worth_is_refused_by_any_list(self):
        for thing in NO_WORTHS:
            for worths in ([], [3], [3, -1]):
                with self.subTest(thing=thing, worths=worths), self.assertRaises(BadWorth):
                    shortest(thing, worths)

    def test_no_worth_in_the_list_is_refused_at_any_place(self):
        for thing in NO_WORTHS:
            for worths in ([thing], [thing, 3], [3, thing], [6, thing], [16, 3, thing, 5]):
                with self.subTest(worths=worths), self.assertRaises(BadWorth):
                    shortest(6, worths)

    def test_the_worth_is_looked_at_ahead_of_the_list(self):
        looked = []

        class Looked(list):
            def __iter__(self):
                looked.append(True)
                return list.__iter__(self)

        with self.assertRaises(BadWorth):
            shortest(32, Looked([-1]))
        self.assertEqual(looked, [])

    def test_the_list_stays_as_it_was(self):
        worths = [9, 3, 9, 30]
        shortest(6, worths)
        self.assertEqual(worths, [9, 3, 9, 30])
        refused = [9, 3, 32]
        with self.assertRaises(BadWorth):
            shortest(6, refused)
        self.assertEqual(refused, [9, 3, 32])

    def test_handed_in_by_name(self):
        self.assertEqual(shortest(worths=[16], worth=6), "0")


if __name__ == "__main__":
    unittest.main()
