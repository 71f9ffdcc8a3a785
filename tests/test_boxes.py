"""[4] Rooms, points and boxes; [5] boxes put together, halves."""

import unittest
from itertools import product

from tests.helper import (BEGINNINGS, NO_BOXES, NO_POINTS, SHORT_BEGINNINGS, apart, begins, figures_by_hand, points_of,
                          under, with_at)
from voidquilt import boxes
from voidquilt.boxes import box_of, halves, holds, is_box, is_point, joined, lies_in, meet, volume, whole
from voidquilt.errors import BadBox, BadPoint, Unlike

BOXES = [("",), ("01",), ("11111",), ("", "0"), ("10", "01101"), ("1", "", "00"), ("0", "1", "0", "1"),
         ("", "", "", "", ""), ("0", "10", "110", "1110", "11110")]
POINTS = [(0,), (31,), (6, 9), (1, 2, 3), (31, 0, 31, 0), (5, 4, 3, 2, 1)]

PAIRS_OF_ONE = list(product([(beginning,) for beginning in BEGINNINGS], repeat=2))
PAIRS_OF_TWO = list(product(list(product(SHORT_BEGINNINGS, repeat=2)), repeat=2))
# Under a beginning of at most two signs lies each quarter of the worths whole or not at all: its ends are enough.
CORNERS = [0, 7, 8, 15, 16, 23, 24, 31]



def made_by_hand(one, other):
    """What two boxes make, looked for place by place as [5] tells it."""
    for at in range(len(one)):
        others = [place for place in range(len(one)) if place != at]
        brothers = one[at] != "" and one[at][:-1] == other[at][:-1] and one[at] != other[at] and \
            len(one[at]) == len(other[at])
        if brothers and not any(apart(one[place], other[place]) for place in others):
            return tuple(one[at][:-1] if place == at else max(one[place], other[place], key=len)
                         for place in range(len(one)))
    return None


class KindsTest(unittest.TestCase):
    def test_constant(self):
        self.assertEqual(boxes.MOST_PLACES, 5)

    def test_boxes_are_boxes(self):
        for box in BOXES + [(beginning,) for beginning in BEGINNINGS]:
            self.assertIs(is_box(box), True, box)

    def test_points_are_points(self):
        for point in POINTS + [(worth,) for worth in range(32)]:
            self.assertIs(is_point(point), True, point)

    def test_anything_else_is_no_box(self):
        for thing in NO_BOXES + POINTS:
            self.assertIs(is_box(thing), False, thing)

    def test_anything_else_is_no_point(self):
        for thing in NO_POINTS + BOXES:
            self.assertIs(is_point(thing), False, thing)

    def test_handed_in_by_name(self):
        self.assertIs(is_box(thing=("0",)), True)
        self.assertIs(is_point(thing=(0,)), True)


class BoxOfTest(unittest.TestCase):
    def test_told_ones(self):
        self.assertEqual(box_of((6,)), ("00110",))
        self.assertEqual(box_of((0, 1, 2, 16, 31)), ("00000", "00001", "00010", "10000", "11111"))

    def test_figures_at_each_place(self):
        for point in POINTS:
            self.assertEqual(box_of(point), tuple(figures_by_hand(worth) for worth in point))
            self.assertEqual(volume(box_of(point)), 1)
            self.assertIs(holds(box_of(point), point), True)

    def test_no_points_are_refused(self):
        for thing in NO_POINTS:
            with self.subTest(thing=thing), self.assertRaises(BadPoint):
                box_of(thing)

    def test_handed_in_by_name(self):
        self.assertEqual(box_of(point=(6,)), ("00110",))


class VolumeTest(unittest.TestCase):
    def test_of_one_place(self):
        for beginning in BEGINNINGS:
            self.assertEqual(volume((beginning,)), len(under(beginning)))

    def test_of_more_places(self):
        self.assertEqual([volume(("",) * many) for many in range(1, 6)], [32, 1024, 32768, 1048576, 33554432])
        self.assertEqual(volume(("0", "10", "110", "1110", "11110")), 16 * 8 * 4 * 2 * 1)
        self.assertEqual(volume(("11111",) * 5), 1)

    def test_is_the_count_of_points_held(self):
        for box in product(SHORT_BEGINNINGS, repeat=2):
            held = [point for point in product(range(32), repeat=2) if holds(box, point)]
            self.assertEqual(volume(box), len(held))
            self.assertEqual(held, points_of(box))

    def test_no_boxes_are_refused(self):
        for thing in NO_BOXES:
            with self.subTest(thing=thing), self.assertRaises(BadBox):
                volume(thing)

    def test_handed_in_by_name(self):
        self.assertEqual(volume(box=("01",)), 8)


class HoldsTest(unittest.TestCase):
    def test_of_one_place(self):
        for beginning in BEGINNINGS:
            for worth in range(32):
                self.assertIs(holds((beginning,), (worth,)), worth in under(beginning))

    def test_each_place_counts(self):
        for many in range(1, 6):
            box = ("01",) * many
            self.assertIs(holds(box, (8,) * many), True)
            for point in with_at(8, 16):
                if len(point) == many:
                    self.assertIs(holds(box, point), False, point)

    def test_refusals_in_their_order(self):
        for bad_box in NO_BOXES:
            for point in ((3, 4), (3,) * 6, (True,), None):
                with self.subTest(box=bad_box), self.assertRaises(BadBox):
                    holds(bad_box, point)
        for bad_point in NO_POINTS:
            for box in (("0", "1"), ("",)):
                with self.subTest(point=bad_point), self.assertRaises(BadPoint):
                    holds(box, bad_point)
        for many, other in product(range(1, 6), repeat=2):
            if many != other:
                with self.subTest(many=many, other=other), self.assertRaises(Unlike):
                    holds(("",) * many, (3,) * other)

    def test_handed_in_by_name(self):
        self.assertIs(holds(point=(8,), box=("01",)), True)


class WholeTest(unittest.TestCase):
    def test_holds_all(self):
        self.assertEqual([whole(many) for many in range(1, 6)],
                         [("",), ("", ""), ("", "", ""), ("", "", "", ""), ("", "", "", "", "")])
        for point in POINTS:
            self.assertIs(holds(whole(len(point)), point), True)

    def test_handed_in_by_name(self):
        self.assertEqual(whole(many=2), ("", ""))


class PairsTest(unittest.TestCase):
    """lies_in and meet of all pairs of one place, and of short beginnings of two."""

    def test_lies_in_told_ones(self):
        self.assertIs(lies_in(("01",), ("0",)), True)
        self.assertIs(lies_in(("0",), ("01",)), False)
        self.assertIs(lies_in(("0", "1", "00"), ("0", "", "0")), True)
        self.assertIs(lies_in(("0", "1", "00"), ("0", "", "1")), False)

    def test_lies_in(self):
        for one, other in PAIRS_OF_ONE + PAIRS_OF_TWO:
            expected = all(begins(mine, its) for mine, its in zip(one, other))
            self.assertIs(lies_in(one, other), expected, (one, other))

    def test_lies_in_means_that_all_points_are_held(self):
        for one, other in PAIRS_OF_ONE:
            self.assertIs(lies_in(one, other), all(holds(other, point) for point in points_of(one)))

    def test_meet_told_ones(self):
        self.assertEqual(meet(("01", ""), ("0", "1")), ("01", "1"))
        self.assertEqual(meet(("", "11", "0"), ("00", "1", "01")), ("00", "11", "01"))
        self.assertIsNone(meet(("0",), ("1",)))

    def test_meet(self):
        for one, other in PAIRS_OF_ONE + PAIRS_OF_TWO:
            expected = tuple(max(pair, key=len) for pair in zip(one, other))
            if any(apart(mine, its) for mine, its in zip(one, other)):
                expected = None
            self.assertEqual(meet(one, other), expected, (one, other))
            self.assertEqual(meet(other, one), expected, (other, one))

    def test_meet_holds_what_both_hold(self):
        for one, other in PAIRS_OF_TWO:
            met = meet(one, other)
            for point in product(CORNERS, repeat=2):
                self.assertIs(holds(one, point) and holds(other, point), met is not None and holds(met, point))

    def test_of_a_box_with_itself(self):
        for box in BOXES:
            self.assertIs(lies_in(box, box), True)
            self.assertEqual(meet(box, box), box)
            self.assertIsNone(joined(box, box))

    def test_apart_at_the_last_place_alone(self):
        for many in range(1, 6):
            one, other = ("",) * (many - 1) + ("10",), ("",) * (many - 1) + ("111",)
            for first, second in ((one, other), (other, one)):
                self.assertIs(lies_in(first, second), False)
                self.assertIsNone(meet(first, second))
                self.assertIsNone(joined(first, second))

    def test_refusals_in_their_order(self):
        for ask in (lies_in, meet, joined):
            for bad in NO_BOXES:
                for good in (("01",), ("0", "1")):
                    with self.subTest(ask=ask, bad=bad):
                        self.assertRaises(BadBox, ask, bad, good)
                        self.assertRaises(BadBox, ask, good, bad)
                        self.assertRaises(BadBox, ask, bad, bad)
            for many, other in product(range(1, 6), repeat=2):
                if many != other:
                    with self.subTest(ask=ask, many=many, other=other), self.assertRaises(Unlike):
                        ask(("0",) * many, ("1",) * other)

    def test_handed_in_by_name(self):
        self.assertIs(lies_in(other=("0",), one=("01",)), True)
        self.assertEqual(meet(other=("0",), one=("01",)), ("01",))
        self.assertEqual(joined(other=("00",), one=("01",)), ("0",))


class JoinedTest(unittest.TestCase):
    def need_both_ways(self, one, other, expected):
        self.assertEqual(joined(one, other), expected, (one, other))
        self.assertEqual(joined(other, one), expected, (other, one))

    def test_brothers_at_one_place(self):
        self.need_both_ways(("0",), ("1",), ("",))
        self.need_both_ways(("10110",), ("10111",), ("1011",))
        self.need_both_ways(("01", "1"), ("00", "1"), ("0", "1"))
        self.need_both_ways(("1", "01"), ("1", "00"), ("1", "0"))

    def test_longer_and_shorter_beginnings_elsewhere(self):
        self.need_both_ways(("0", "", "101"), ("1", "01", "1"), ("", "01", "101"))
        self.need_both_ways(("011", "00", ""), ("", "01", "11"), ("011", "0", "11"))
        self.need_both_ways(("", "", "", "", "11110"), ("0", "1", "10", "01", "11111"), ("0", "1", "10", "01", "1111"))

    def test_brothers_at_two_places_make_none(self):
        self.need_both_ways(("0", "0"), ("1", "1"), None)
        self.need_both_ways(("0", "01", "1"), ("0", "00", "0"), None)

    def test_apart_but_no_brothers_make_none(self):
        self.need_both_ways(("00",), ("11",), None)
        self.need_both_ways(("0",), ("10",), None)
        self.need_both_ways(("00", "1"), ("10", "1"), None)
        self.need_both_ways(("0", "00"), ("1", "11"), None)

    def test_no_place_apart_makes_none(self):
        self.need_both_ways(("",), ("0",), None)
        self.need_both_ways(("0", "11"), ("01", "1"), None)

    def test_all_pairs(self):
        for one, other in PAIRS_OF_ONE + PAIRS_OF_TWO:
            self.assertEqual(joined(one, other), made_by_hand(one, other), (one, other))

    def test_each_point_made_lies_in_one_of_the_two(self):
        for one, other in PAIRS_OF_ONE:
            made = joined(one, other)
            if made is not None:
                self.assertEqual(points_of(made), sorted(points_of(one) + points_of(other)))
        for one, other in PAIRS_OF_TWO:
            made = joined(one, other)
            for point in product(CORNERS, repeat=2):
                if made is not None and holds(made, point):
                    self.assertTrue(holds(one, point) or holds(other, point), (one, other, point))


class HalvesTest(unittest.TestCase):
    def test_told_ones(self):
        self.assertEqual(halves(("",)), [("0",), ("1",)])
        self.assertEqual(halves(("01", "")), [("010", ""), ("011", "")])
        self.assertEqual(halves(("11111", "1", "0")), [("11111", "10", "0"), ("11111", "11", "0")])
        self.assertEqual(halves(("00000",) * 4 + ("1111",)),
                         [("00000",) * 4 + ("11110",), ("00000",) * 4 + ("11111",)])

    def test_none_of_a_points_box(self):
        for point in POINTS:
            self.assertEqual(halves(box_of(point)), [])

    def test_put_together_they_make_the_box_again(self):
        for box in BOXES + list(product(BEGINNINGS, repeat=2)):
            if volume(box) > 1:
                low, high = halves(box)
                self.assertEqual(joined(low, high), box)
                self.assertEqual(joined(high, low), box)
                self.assertEqual(volume(low) + volume(high), volume(box))
                self.assertIsNone(meet(low, high))
                self.assertLess(low, high)

    def test_a_new_list_each_time(self):
        for box in (("01", ""), ("11111",)):
            told = halves(box)
            self.assertIsInstance(told, list)
            expected = list(told)
            told.append("more")
            self.assertEqual(halves(box), expected)

    def test_no_boxes_are_refused(self):
        for thing in NO_BOXES:
            with self.subTest(thing=thing), self.assertRaises(BadBox):
                halves(thing)

    def test_handed_in_by_name(self):
        self.assertEqual(halves(box=("01",)), [("010",), ("011",)])


if __name__ == "__main__":
    unittest.main()
