"""The gap of rows about a point."""

from voidquilt.bits import shortest
from voidquilt.boxes import box_of, whole


def gap(rows, point):
    """The box about the point in which no row lies, or None where the point is a row."""
    for count, worth in enumerate(point):
        # As long as a row goes on as the point does there is no beginning, and one more thing is in common.
        beginning = shortest(worth, [row[count] for row in rows if row[:count] == point[:count]])
        if beginning is not None:
            return box_of(point)[:count] + (beginning,) + whole(len(point) - count - 1)
    return None
