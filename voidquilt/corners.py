"""The packing of the greatest sum, looked for from corner to corner of all that fit.

All is reckoned in whole numbers over a common one below them, so that nothing is ever rounded.
"""


def turned(line, chosen, column, below):
    """The line with its number in the column brought to nought by the chosen one."""
    pivot = chosen[column]
    own = line[column]
    # The division leaves no rest: all these numbers are determinants of the first table.
    return [(number * pivot - own * other) // below for number, other in zip(line, chosen)]


class Corner:
    """A line for each tie, with columns for the names, for what each tie has left, and for the whole; and the goal."""

    def __init__(self, tied, many):
        ties = list(range(len(tied)))
        places = list(range(many))
        self.lines = [[int(at in tied[tie]) for at in places] + [int(tie == other) for other in ties] + [1]
                      for tie in ties]
        self.goal = [-1] * many + [0] * len(tied) + [0]
        self.below = 1
        # For each line the column whose amount it tells; all other columns have none.
        self.based = [many + tie for tie in ties]

    def column_in(self):
        """The first column of which more makes the sum greater, or None."""
        growing = [at for at, number in enumerate(self.goal[:-1]) if number < 0]
        return growing[0] if growing else None

    def line_out(self, column):
        """The line that first stops the column from growing; of several the one of the least column."""
        best = None
        for at, line in enumerate(self.lines):
            if line[column] > 0 and (best is None or self.stops_ahead(at, best, column)):
                best = at
        return best

    def stops_ahead(self, one, other, column):
        mine = self.lines[one][-1] * self.lines[other][column]
        its = self.lines[other][-1] * self.lines[one][column]
        return (mine, self.based[one]) < (its, self.based[other])

    def turn(self, column):
        """Go on to the next corner, along a column."""
        out = self.line_out(column)
        chosen = self.lines[out]
        self.lines = [line if at == out else turned(line, chosen, column, self.below)
                      for at, line in enumerate(self.lines)]
        self.goal = turned(self.goal, chosen, column, self.below)
        self.below = chosen[column]
        self.based[out] = column

    def amount(self, column):
        """What a column has at this corner."""
        return self.lines[self.based.index(column)][-1] if column in self.based else 0


def best_corner(tied, many):
    """The corner of the greatest sum, for ties of these places among so many, each place in a tie."""
    corner = Corner(tied, many)
    column = corner.column_in()
    # The least column goes in and out where there is a choice, so no corner comes twice.
    while column is not None:
        corner.turn(column)
        column = corner.column_in()
    return corner
