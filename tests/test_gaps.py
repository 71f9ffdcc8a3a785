"""[10] The gap of rows about a point; [3] as far as it leans on the shortest beginning."""

import random
import unittest

from tests.helper import figures_by_hand, in_box, random_rows, under
from voidquilt.gaps import gap


def gap_by_hand(rows, point):
    """The gap as [10] tells it, word for word."""
    if point in rows:
        return None
    count = max([at for at in range(len(point)) for row in rows if row[:at] == point[:at]], default=0)
    hanging = [row[count] for row in rows if row[:count] == point[:count]]
    own = figures_by_hand(point[count])
    beginning = next(own[:long] for long in range(6) if not set(under(own[:long])) & set(hanging))
    return tuple(figures_by_hand(worth) for worth in point[:count]) + (beginning,) + ("",) * (len(point) - count - 1)


class GapTest(unittest.TestCase):
    def test_told_ones(self):
        self.assertEqual(gap([(3, 16), (3, 7), (20, 6)], (3, 6)), ("00011", "00110"))
        self.assertEqual(gap([(3, 16), (20, 6)], (3, 6)), ("00011", "0"))
        self.assertEqual(gap([(3, 16), (20, 6)], (2, 6)), ("00010", ""))
        self.assertEqual(gap([(3, 16), (20, 6)], (24, 6)), ("11", ""))
        self.assertEqual(gap([(1, 2, 3)], (1, 4, 3)), ("00001", "001", ""))

    def test_of_no_rows_the_whole_room(self):
        for width in range(1, 5):
            self.assertEqual(gap([], (5,) * width), ("",) * width)

    def test_none_where_the_point_is_a_row(self):
        self.assertIsNone(gap([(5,)], (5,)))
        self.assertIsNone(gap([(1, 2), (5, 6), (9, 9)], (5, 6)))
        self.assertIsNone(gap([(1, 2, 3, 4)], (1, 2, 3, 4)))

    def test_all_points_by_one_row(self):
        for width in range(1, 5):
            row = (6, 0, 31, 9)[:width]
            for common in range(width):
                for worth in range(32):
                    point = row[:common] + (worth,) + row[common + 1:]
                    self.assertEqual(gap([row], point), gap_by_hand([row], point), point)

    def test_each_count_of_things_in_common(self):
        rows = [(1, 1, 1, 1), (2, 1, 1, 1), (1, 2, 1, 1), (1, 1, 2, 1), (1, 1, 1, 2)]
        self.assertEqual(gap(rows, (8, 1, 1, 1)), ("01", "", "", ""))
        self.assertEqual(gap(rows, (1, 8, 1, 1)), ("00001", "01", "", ""))
        self.assertEqual(gap(rows, (1, 1, 8, 1)), ("00001", "00001", "01", ""))
        self.assertEqual(gap(rows, (1, 1, 1, 8)), ("00001", "00001", "00001", "01"))
        self.assertEqual(gap(rows, (2, 2, 1, 1)), ("00010", "0001", "", ""))

    def test_any_rows_and_points(self):
        chance = random.Random(10)
        for number in range(400):
            width = number % 4 + 1
            worths = chance.sample(range(32), chance.choice([2, 4, 12]))
            rows = random_rows(chance, width, worths, 40)
            for _ in range(6):
                point = tuple(chance.choice([*worths, chance.randrange(32)]) for _ in range(width))
                told = gap(rows, point)
                self.assertEqual(told, gap_by_hand(rows, point), (rows, point))
                self.assertEqual(gap(sorted(rows), point), told)
                self.assertEqual(gap(rows[::-1], point), told)
                if told is not None:
                    self.assertTrue(in_box(point, told))
                    self.assertFalse(any(in_box(row, told) for row in rows))

    def test_the_handed_list_stays(self):
        rows = [(3, 16), (20, 6), (3, 7)]
        gap(rows, (3, 6))
        gap(rows, (3, 7))
        self.assertEqual(rows, [(3, 16), (20, 6), (3, 7)])

    def test_handed_in_by_name(self):
        self.assertEqual(gap(point=(6,), rows=[(16,)]), ("0",))


if __name__ == "__main__":
    unittest.main()
