"""[9] The tree of rows, walkers, their moves, Off."""

import random
import unittest

from tests.helper import random_rows
from voidquilt.errors import Off
from voidquilt.walker import Walker

ROWS = [(3, 1), (1, 5), (3, 7), (1, 2), (9, 0), (3, 4)]


class ByHand:
    """Where a walker stands, as the keys on its way; the last of them None where it has ended."""

    def __init__(self, rows):
        self.rows = rows
        self.way = []

    def hanging(self, beginning):
        count = len(beginning)
        return sorted({row[count] for row in self.rows if row[:count] == beginning and len(row) > count})

    def at_key(self):
        return bool(self.way) and self.way[-1] is not None

    def moved(self, move, worth):
        """Do a move, and tell whether it can be done."""
        keys = self.hanging(tuple(self.way[:-1]))
        if move == "down":
            behind = [] if self.way and not self.at_key() else self.hanging(tuple(self.way))
            self.way += behind[:1]
            return bool(behind)
        if move == "up":
            return bool(self.way) and (self.way.pop() or True)
        if self.at_key():
            least = self.way[-1] + 1 if move == "step" else max(worth, self.way[-1])
            self.way[-1] = min([key for key in keys if key >= least], default=None)
            return True
        return False


class WalkerTest(unittest.TestCase):
    def need(self, walker, depth, ended, key):
        self.assertEqual(walker.depth(), depth)
        self.assertIs(walker.ended(), ended)
        if key is None:
            self.assertRaises(Off, walker.key)
        else:
            self.assertEqual(walker.key(), key)

    def need_as(self, walker, by_hand):
        way = by_hand.way
        self.need(walker, len(way), bool(way) and way[-1] is None, way[-1] if way else None)

    def need_off(self, walker, *moves):
        """All these moves are refused, and the walker stands where it stood."""
        stood = (walker.depth(), walker.ended())
        for move in moves:
            with self.assertRaises(Off):
                getattr(walker, move)(*([0] if move == "seek" else []))
            self.assertEqual((walker.depth(), walker.ended()), stood)

    def test_at_the_root(self):
        walker = Walker(ROWS)
        self.need(walker, 0, False, None)
        self.need_off(walker, "step", "seek", "up", "key")
        self.assertIsNone(walker.down())
        self.need(walker, 1, False, 1)

    def test_of_no_rows(self):
        walker = Walker([])
        self.need_off(walker, "down", "step", "seek", "up", "key")
        self.need(walker, 0, False, None)

    def test_down_and_step_through_all(self):
        walker = Walker(ROWS)
        walker.down()
        seen = []
        while not walker.ended():
            first = walker.key()
            walker.down()
            while not walker.ended():
                seen.append((first, walker.key()))
                self.need_off(walker, "down")
                self.assertIsNone(walker.step())
            self.need(walker, 2, True, None)
            self.need_off(walker, "down", "step", "seek", "key")
            self.assertIsNone(walker.up())
            self.need(walker, 1, False, first)
            walker.step()
        self.assertEqual(seen, sorted(ROWS))
        self.need(walker, 1, True, None)
        self.need_off(walker, "down", "step", "seek", "key")
        walker.up()
        self.need(walker, 0, False, None)
        self.need_off(walker, "up")

    def test_seek(self):
        for worth, key in ((-5, 3), (0, 3), (2, 3), (3, 3), (4, 9), (9, 9), (10, None), (31, None), (10 ** 29, None)):
            walker = Walker(ROWS)
            walker.down()
            walker.step()
            self.assertIsNone(walker.seek(worth))
            self.need(walker, 1, key is None, key)

    def test_seek_stays_behind_the_same_beginning(self):
        walker = Walker([(1, 2), (1, 4), (2, 6), (2, 8)])
        walker.down()
        walker.down()
        walker.seek(5)
        self.need(walker, 2, True, None)
        walker.up()
        self.need(walker, 1, False, 1)
        walker.step()
        walker.down()
        walker.seek(7)
        self.need(walker, 2, False, 8)

    def test_up_tells_the_key_as_it_was_left(self):
        walker = Walker([(1, 0, 3), (4, 2, 9), (4, 6, 1), (4, 6, 5)])
        walker.down()
        walker.seek(2)
        walker.down()
        walker.step()
        walker.down()
        self.need(walker, 3, False, 1)
        walker.up()
        self.need(walker, 2, False, 6)
        walker.down()
        self.need(walker, 3, False, 1)
        walker.seek(6)
        self.need(walker, 3, True, None)
        walker.up()
        self.need(walker, 2, False, 6)
        walker.up()
        self.need(walker, 1, False, 4)

    def test_one_row_of_one_to_four_places(self):
        for width in range(1, 5):
            row = (7, 0, 31, 7)[:width]
            walker = Walker([row])
            for depth, worth in enumerate(row, start=1):
                walker.down()
                self.need(walker, depth, False, worth)
            self.need_off(walker, "down")
            walker.step()
            self.need(walker, width, True, None)

    def test_the_handed_list_stays_and_may_be_changed_behind(self):
        rows = list(ROWS)
        walker = Walker(rows)
        self.assertEqual(rows, ROWS)
        walker.down()
        del rows[:]
        rows.append((0, 0))
        walker.seek(3)
        walker.down()
        self.assertEqual(walker.key(), 1)
        walker.seek(6)
        self.assertEqual(walker.key(), 7)

    def test_two_walkers_of_one_list(self):
        rows = list(ROWS)
        one, other = Walker(rows), Walker(rows)
        one.down()
        one.step()
        self.need(other, 0, False, None)
        other.down()
        self.need(one, 1, False, 3)
        self.need(other, 1, False, 1)
        self.assertEqual(rows, ROWS)

    def test_any_moves_of_any_rows(self):
        chance = random.Random(9)
        for number in range(200):
            worths = chance.sample(range(32), chance.choice([2, 3, 8]))
            rows = random_rows(chance, number % 4 + 1, worths, 40)
            walker, by_hand = Walker(rows), ByHand(rows)
            for _ in range(80):
                move = chance.choice(["down", "down", "step", "seek", "up"])
                worth = chance.choice([*worths, chance.randrange(-1, 33)])
                arguments = [worth] if move == "seek" else []
                if by_hand.moved(move, worth):
                    self.assertIsNone(getattr(walker, move)(*arguments))
                else:
                    self.assertRaises(Off, getattr(walker, move), *arguments)
                self.need_as(walker, by_hand)

    def test_any_order_of_the_rows(self):
        for rows in (ROWS, ROWS[::-1], sorted(ROWS), sorted(ROWS)[::-1]):
            walker = Walker(rows)
            walker.down()
            walker.seek(2)
            walker.down()
            walker.step()
            self.need(walker, 2, False, 4)

    def test_handed_in_by_name(self):
        walker = Walker(rows=[(3,)])
        walker.down()
        walker.seek(worth=4)
        self.assertIs(walker.ended(), True)


if __name__ == "__main__":
    unittest.main()
