"""Walkers over the tree that rows of one width make."""

from voidquilt.errors import Off


def tree_of(rows):
    """For each beginning of a row, but whole rows, the rising list of the worths that come next."""
    tree = {}
    for row in sorted(rows):
        for at, worth in enumerate(row):
            worths = tree.setdefault(row[:at], [])
            # Equal worths come one behind the other, as the rows rise.
            if worths[-1:] != [worth]:
                worths.append(worth)
    return tree


class Walker:
    """Stands at the root, at a key, or behind the last key of a depth."""

    def __init__(self, rows):
        self.tree = tree_of(rows)
        # For each depth down to where it stands: the worths that hang there, and the place among these.
        self.levels = []
        self.spots = []

    def need_key(self):
        if self.depth() == 0 or self.ended():
            raise Off()

    def down(self):
        """From the root or a key to the first key behind it."""
        if self.ended():
            raise Off()
        beginning = tuple([level[spot] for level, spot in zip(self.levels, self.spots)])
        if beginning not in self.tree:
            raise Off()
        self.levels.append(self.tree[beginning])
        self.spots.append(0)

    def step(self):
        """From a key to the next one, or behind the last one."""
        self.need_key()
        self.spots[-1] += 1

    def seek(self, worth):
        """From a key to the least one, from itself on, that isn't less than the worth, or behind the last one."""
        self.need_key()
        level = self.levels[-1]
        spot = self.spots[-1]
        while spot < len(level) and level[spot] < worth:
            spot += 1
        self.spots[-1] = spot

    def up(self):
        """To the key ahead, or to the root."""
        if self.depth() == 0:
            raise Off()
        self.levels.pop()
        self.spots.pop()

    def key(self):
        self.need_key()
        return self.levels[-1][self.spots[-1]]

    def depth(self):
        return len(self.spots)

    def ended(self):
        """Whether it stands behind the last key of a depth."""
        return self.depth() > 0 and self.spots[-1] == len(self.levels[-1])
