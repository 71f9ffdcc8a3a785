"""What several tests need: all beginnings, things that are none, and points to look at."""

from itertools import product

BEGINNINGS = ["".join(signs) for count in range(6) for signs in product("01", repeat=count)]
SHORT_BEGINNINGS = [beginning for beginning in BEGINNINGS if len(beginning) <= 2]

LEAST_LONG = -(10 ** 30 - 1)
MOST_LONG = 10 ** 30 - 1

NO_WORTHS = [-1, 32, 33, -32, 10 ** 29, -(10 ** 29), MOST_LONG, LEAST_LONG, True, False, None,
             "", "3", "00110", 3.0, 0.5, b"3", [3], (3,), {3: 3}, {3}]

NO_BEGINNINGS = ["000000", "010101", "0" * 400, "2", "0a", "01 ", " 01", "0*", "*", "-1", "0\n", "\n",
                 "\u0661", "0,1", None, True, False, 0, 1, 10, MOST_LONG, 1.0, b"", b"01",
                 [], ["0"], ["0", "1"], (), ("0",), {}, {"0": "1"}]


def figures_by_hand(worth):
    """The digits by twos, each reckoned by itself."""
    return "".join("01"[worth // power % 2] for power in (16, 8, 4, 2, 1))


def under(beginning):
    """The worths whose figures begin so, looked for one by one."""
    return [worth for worth in range(32) if figures_by_hand(worth)[:len(beginning)] == beginning]


def begins(one, other):
    return one[:len(other)] == other


def apart(one, other):
    """Whether neither of two beginnings begins with the other one."""
    return not begins(one, other) and not begins(other, one)


def points_of(box):
    return list(product(*[under(beginning) for beginning in box]))
