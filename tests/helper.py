"""What several tests need: all beginnings, things that are none, and points to look at."""

from itertools import product

BEGINNINGS = ["".join(signs) for count in range(6) for signs in product("01", repeat=count)]
SHORT_BEGINNINGS = [beginning for beginning in BEGINNINGS if len(beginning) <= 2]

LEAST_LONG = -(10 ** 30 - 1)
MOST_LONG = 10 ** 30 - 1

NO_WORTHS = [-1, 32, 33, -32, 10 ** 29, -(10 ** 29), MOST_LONG, LEAST_LONG, True, False, None,
             "", "3", "00110", 3.0, 0.5, b"3", [3], (3,), {3: 3}, {3}]

NO_BEGINNINGS = ["000000", "010101", "0" * 400, "2", "0a", "01 ", " 01", "0*", "*", "-1", "0\n", "\n",
                 "\u0661", "0,1", None, True, False, 0, 1, 10, MOST_LONG, 1.0, b"", b"01",
                 [], ["0"], ["0", "1"], (), ("0",), {}, {"0": "1"}]

NO_TUPLES = [None, True, False, 0, 5, -1, 3.0, "", "01", "0" * 400, b"01", [], [""], ["0", "1"], [3], [3, 4], {},
             {"0": "1"}, {3}]


def with_at(good, bad):
    """A tuple of one to five places with the bad thing at any of them."""
    return [(good,) * at + (bad,) + (good,) * (many - at - 1) for many in range(1, 6) for at in range(many)]


NO_BOXES = NO_TUPLES + [(), ("",) * 6, ("0",) * 6] + [
    thing for bad in NO_BEGINNINGS for thing in with_at("01", bad)]
NO_POINTS = NO_TUPLES + [(), (3,) * 6] + [thing for bad in NO_WORTHS for thing in with_at(7, bad)]


def figures_by_hand(worth):
    """The digits by twos, each reckoned by itself."""
    return "".join("01"[worth // power % 2] for power in (16, 8, 4, 2, 1))


def under(beginning):
    """The worths whose figures begin so, looked for one by one."""
    return [worth for worth in range(32) if figures_by_hand(worth)[:len(beginning)] == beginning]


def begins(one, other):
    return one[:len(other)] == other


def apart(one, other):
    """Whether neither of two beginnings begins with the other one."""
    return not begins(one, other) and not begins(other, one)


def points_of(box):
    return list(product(*[under(beginning) for beginning in box]))


def in_box(point, box):
    return all(begins(figures_by_hand(worth), beginning) for worth, beginning in zip(point, box))


def random_rows(chance, width, worths, most):
    """Some unlike rows in any order."""
    rows = {tuple(chance.choice(worths) for _ in range(width)) for _ in range(chance.randint(0, most))}
    return chance.sample(sorted(rows), len(rows))
