"""[6] Stores, what is put into them, and the bare point; [2] as far as it speaks of them."""

import random
import time
import unittest
from itertools import product

from tests.helper import BEGINNINGS, NO_BOXES, SHORT_BEGINNINGS, begins, in_box
from voidquilt.boxes import box_of
from voidquilt.errors import BadBox
from voidquilt.store import Store


def lies(box, outer):
    return all(begins(mine, its) for mine, its in zip(box, outer))


def first_over(boxes, box):
    return next((outer for outer in boxes if lies(box, outer)), None)


def boxes_at_random(chance, places, count, beginnings):
    return [tuple(chance.choice(beginnings) for _ in range(places)) for _ in range(count)]


def store_of(places, boxes):
    store = Store(places)
    for box in boxes:
        store.put(box)
    return store


def all_but(point):
    """Boxes that hold all points but one."""
    figures = box_of(point)
    boxes = []
    for at, own in enumerate(figures):
        for count in range(5):
            turned = own[:count] + "10"[int(own[count])]
            boxes.append(figures[:at] + (turned,) + ("",) * (len(point) - at - 1))
    return boxes


def bare_by_hand(places, boxes, worths=range(32)):
    """The first point of these worths that no box holds."""
    return next((point for point in product(worths, repeat=places)
                 if not any(in_box(point, box) for box in boxes)), None)


class PutTest(unittest.TestCase):
    def need(self, store, places, kept):
        self.assertEqual(store.boxes(), kept)
        self.assertEqual(len(store), len(kept))
        self.assertEqual(repr(store), f"Store({len(kept)} boxes)")
        self.assertIs(store == store_of(places, kept), True)
        self.assertIs(store != store_of(places, kept), False)

    def test_a_new_one_is_empty(self):
        for places in range(1, 6):
            self.need(Store(places), places, [])

    def test_told_ones(self):
        store = Store(2)
        self.assertIs(store.put(("01", "")), True)
        self.assertEqual(repr(store), "Store(1 boxes)")
        self.assertIs(store.put(("01", "")), False)
        self.assertIs(store.put(("010", "1")), False)
        self.assertIs(store.put(("", "1")), True)
        self.assertIs(store.put(("0", "1")), False)
        self.assertIs(store.put(("0", "0")), True)
        self.assertEqual(store.boxes(), [("01", ""), ("", "1"), ("0", "0")])

    def test_a_later_greater_box_takes_no_smaller_ones_out(self):
        store = store_of(3, [("01", "0", ""), ("11", "", "1"), ("", "", "")])
        self.assertEqual(store.boxes(), [("01", "0", ""), ("11", "", "1"), ("", "", "")])
        self.assertEqual(store.over(("01", "00", "1")), ("01", "0", ""))
        self.assertIs(store.put(("10", "", "")), False)

    def test_put_and_over_of_rooms_of_one_to_five_places(self):
        chance = random.Random(6)
        for places in range(1, 6):
            for beginnings in (SHORT_BEGINNINGS[1:], BEGINNINGS[1:], BEGINNINGS):
                store, kept = Store(places), []
                for box in boxes_at_random(chance, places, 60, beginnings):
                    expected = first_over(kept, box)
                    self.assertEqual(store.over(box), expected)
                    self.assertIs(store.put(box), expected is None)
                    if expected is None:
                        kept.append(box)
                    self.need(store, places, kept)
                    self.assertEqual(store.over(box), expected if expected is not None else box)

    def test_over_tells_the_first_one_and_changes_nothing(self):
        store = store_of(2, [("0", "00"), ("", "0"), ("0", "")])
        self.assertEqual(store.over(("0", "00")), ("0", "00"))
        self.assertEqual(store.over(("00", "01")), ("", "0"))
        self.assertEqual(store.over(("00", "1")), ("0", ""))
        self.assertIsNone(store.over(("1", "1")))
        self.assertIsNone(store.over(("", "")))
        self.need(store, 2, [("0", "00"), ("", "0"), ("0", "")])

    def test_no_boxes_are_refused(self):
        for places in range(1, 6):
            for kept in ([], [("0",) * places], [("",) * places]):
                store = store_of(places, kept)
                others = [("0",) * other for other in range(1, 6) if other != places]
                for thing in NO_BOXES + others:
                    self.assertRaises(BadBox, store.put, thing)
                    self.assertRaises(BadBox, store.over, thing)
                self.need(store, places, kept)

    def test_told_lists_are_new_ones(self):
        store = store_of(2, [("0", ""), ("", "1")])
        told = store.boxes()
        told.append(("", ""))
        told[0] = None
        self.need(store, 2, [("0", ""), ("", "1")])
        self.assertEqual(store.bare(), (16, 0))

    def test_handed_in_by_name(self):
        store = Store(many=1)
        self.assertIs(store.put(box=("0",)), True)
        self.assertEqual(store.over(box=("01",)), ("0",))


class TwinTest(unittest.TestCase):
    def test_each_goes_its_own_way(self):
        store = store_of(2, [("0", "")])
        twin = store.twin()
        self.assertIs(store == twin, True)
        self.assertIsInstance(twin, Store)
        store.put(("1", "0"))
        self.assertEqual(twin.boxes(), [("0", "")])
        self.assertIs(store != twin, True)
        twin.put(("1", "1"))
        twin.put(("", ""))
        self.assertEqual(store.boxes(), [("0", ""), ("1", "0")])
        self.assertEqual(twin.boxes(), [("0", ""), ("1", "1"), ("", "")])
        self.assertEqual((store.bare(), twin.bare()), ((16, 16), None))

    def test_a_twin_has_the_same_room(self):
        twin = Store(4).twin()
        self.assertRaises(BadBox, twin.put, ("", "", ""))
        self.assertIs(twin.put(("", "", "", "")), True)

    def test_stores_made_apart(self):
        one, other = Store(1), Store(1)
        one.put(("0",))
        self.assertEqual(other.boxes(), [])


class EqualTest(unittest.TestCase):
    def need_unlike(self, one, other):
        self.assertIs(one == other, False)
        self.assertIs(other == one, False)
        self.assertIs(one != other, True)
        self.assertIs(other != one, True)

    def test_rooms_boxes_and_order_count(self):
        self.need_unlike(Store(1), Store(2))
        self.need_unlike(store_of(1, [("0",)]), store_of(1, [("1",)]))
        self.need_unlike(store_of(1, [("0",)]), Store(1))
        self.need_unlike(store_of(1, [("0",), ("1",)]), store_of(1, [("1",), ("0",)]))
        self.assertIs(store_of(1, [("0",), ("00",)]) == store_of(1, [("0",)]), True)

    def test_equal_to_nothing_else(self):
        for thing in (None, 0, 1, True, "Store(0 boxes)", [], [("0",)], (), {}, object(), (1, [("0",)])):
            for store in (Store(1), store_of(1, [("0",)])):
                self.need_unlike(store, thing)


class BareTest(unittest.TestCase):
    def test_of_an_empty_store(self):
        for places in range(1, 6):
            self.assertEqual(Store(places).bare(), (0,) * places)

    def test_told_ones(self):
        self.assertEqual(store_of(1, [("0",)]).bare(), (16,))
        self.assertEqual(store_of(2, [("", "0"), ("00", "")]).bare(), (8, 16))
        self.assertEqual(store_of(3, [("0", "", ""), ("", "0", ""), ("", "", "0")]).bare(), (16, 16, 16))
        self.assertEqual(store_of(2, [("0", "0"), ("0", "1"), ("1", "01")]).bare(), (16, 0))
        self.assertIsNone(store_of(2, [("0", "0"), ("0", "1"), ("1", "")]).bare())

    def test_of_any_one_box(self):
        for beginning in BEGINNINGS:
            for box in ((beginning,), ("", beginning), (beginning, "")):
                self.assertEqual(store_of(len(box), [box]).bare(), bare_by_hand(len(box), [box]), box)

    def test_of_one_and_two_places(self):
        chance = random.Random(61)
        for places in (1, 2):
            for _ in range(60):
                boxes = boxes_at_random(chance, places, chance.randint(0, 25), BEGINNINGS[1:])
                self.assertEqual(store_of(places, boxes).bare(), bare_by_hand(places, boxes), boxes)

    def test_of_three_to_five_places(self):
        # Beginnings of at most two signs part the worths by eights alone, so the least bare point is made of eights.
        chance = random.Random(62)
        for places in (3, 4, 5):
            for count in (1, 3, 8, 20, 60):
                for _ in range(4):
                    boxes = boxes_at_random(chance, places, count, SHORT_BEGINNINGS[1:])
                    boxes += boxes_at_random(chance, places, count // 3, SHORT_BEGINNINGS)
                    boxes = [box for box in boxes if box != ("",) * places]
                    expected = bare_by_hand(places, boxes, (0, 8, 16, 24))
                    self.assertEqual(store_of(places, boxes).bare(), expected, boxes)

    def test_all_but_one_point(self):
        chance = random.Random(63)
        for places in range(1, 6):
            for point in [(0,) * places, (31,) * places, tuple(chance.randrange(32) for _ in range(places))]:
                boxes = all_but(point)
                chance.shuffle(boxes)
                store = store_of(places, boxes)
                self.assertEqual(store.bare(), point)
                self.assertEqual(store.bare(), point)
                self.assertEqual(len(store), 5 * places)
                self.assertIs(store.put(box_of(point)), True)
                self.assertIsNone(store.bare())
                self.assertIsNone(store.bare())

    def test_of_a_whole_room(self):
        for places in range(1, 6):
            self.assertIsNone(store_of(places, [("",) * places]).bare())

    def test_behind_each_put_of_a_box_about_the_told_point(self):
        chance = random.Random(64)
        for places, longest in ((1, 5), (2, 5), (3, 3), (4, 2), (5, 2)):
            store, last = Store(places), None
            while (point := store.bare()) is not None:
                self.assertEqual(store.bare(), point)
                self.assertFalse(any(in_box(point, box) for box in store.boxes()))
                if last is not None:
                    self.assertGreater(point, last)
                last = point
                box = tuple(figures[:chance.randint(1, longest)] for figures in box_of(point))
                self.assertIs(store.put(box), True)
            self.assertIsNone(bare_by_hand(places, store.boxes(), (0, 31) if places > 2 else range(32)))

    def test_point_by_point(self):
        store = Store(1)
        told = []
        while (point := store.bare()) is not None:
            told.append(point)
            store.put(box_of(point))
        self.assertEqual(told, [(worth,) for worth in range(32)])

    def test_asking_changes_nothing(self):
        store = store_of(2, [("0", ""), ("10", "1")])
        store.bare()
        self.assertEqual(store.boxes(), [("0", ""), ("10", "1")])

    def test_five_places_are_answered_soon(self):
        began = time.perf_counter()
        self.assertEqual(store_of(5, [("", "", "", "", "00000")]).bare(), (0, 0, 0, 0, 1))
        self.assertEqual(store_of(5, all_but((31,) * 5)).bare(), (31,) * 5)
        self.assertEqual(store_of(5, all_but((31, 30, 29, 28, 27))[::-1]).bare(), (31, 30, 29, 28, 27))
        last = [("", "", "", "", figures) for (figures,) in map(box_of, [(worth,) for worth in range(32)])]
        self.assertEqual(store_of(5, last[:-1]).bare(), (0, 0, 0, 0, 31))
        self.assertIsNone(store_of(5, last).bare())
        self.assertLess(time.perf_counter() - began, 5)


if __name__ == "__main__":
    unittest.main()
