"""Steps put one behind the other until the whole room is covered."""

from voidquilt.bits import FIGURES, span
from voidquilt.boxes import joined, within
from voidquilt.ground import never_less
from voidquilt.shelf import Shelf, beginnings_of
from voidquilt.steps import box_of_step, led_over
from voidquilt.ties import picked, spread


def widened(rows, box):
    """A box as wide as can be about this one in which no row lies; none lies in this one."""
    wide = list(box)
    # From the last place on, so that what is left long are the first names, which are parted ahead of the others.
    for at in reversed(range(len(box))):
        rest = wide[:at] + [""] + wide[at + 1:]
        beside = [row[at] for row in rows if within(row, rest)]
        wide[at] = [part for part in beginnings_of(wide[at]) if not any([own.startswith(part) for own in beside])][0]
    return tuple(wide)


def widened_pair(first, second):
    """Beginnings as short as can be of these two under which no first worth is less than a second one."""
    later = [part for part in beginnings_of(second) if never_less(first, part)][0]
    return ([part for part in beginnings_of(first) if never_less(part, later)][0], later)


def same_figure(rows, at, count):
    """Whether behind so many figures at a place the next one is the same in all rows."""
    first = rows[0][at][count]
    # Not by a list of all of them: mostly one of the first rows tells.
    for row in rows:
        if row[at][count] != first:
            return False
    return True


def needed(steps, last):
    """The rising numbers of the last step and of all of which it is joined."""
    wanted = {last}
    for number in reversed(range(last + 1)):
        if number in wanted and steps[number][0] == "joined":
            wanted.add(steps[number][1])
            wanted.add(steps[number][2])
    return sorted(wanted)


class Quilt:
    """A paper in the making."""

    def __init__(self, ground, steps):
        self.ground = ground
        self.sewn = []
        self.patches = []
        self.shelf = Shelf()
        for step in steps:
            self.sew(step)

    def sew(self, step):
        """Put a step behind the others; its number."""
        number = len(self.sewn)
        box = box_of_step(self.ground.question, step)
        self.sewn.append(step)
        self.patches.append(box)
        self.shelf.lay(box, number)
        return number

    def finished(self):
        """The steps that were there and those that had to be added for a right paper."""
        begun = len(self.sewn)
        if self.patches[-1:] == [self.ground.room]:
            return list(self.sewn)
        last = self.cover(self.ground.room, self.ground.let)
        added = [number for number in needed(self.sewn, last) if number >= begun]
        paper = led_over(self.sewn, list(range(begun)) + added)
        # The whole room may have been covered ahead of the last step that was there: that step is told again then.
        return paper if added else [*paper, paper[last]]

    def cover(self, box, let):
        """The number of a step in whose box this one lies; let are the rows of each tie that lie in this one."""
        number = self.shelf.number_over(box)
        if number is not None:
            return number
        step = self.empty_step(box, let)
        if step is None:
            step = self.less_step(box)
        if step is not None:
            return self.sew(step)
        at = self.parting(box, let)
        if at is None:
            return self.sew(("told", tuple([span(beginning)[0] for beginning in box])))
        return self.cover_halves(box, let, at)

    def cover_halves(self, box, let, at):
        """As cover, by way of the two halves at a place."""
        numbers = []
        for sign in "01":
            beginning = box[at] + sign
            half = box[:at] + (beginning,) + box[at + 1:]
            number = self.cover(half, self.parted(let, at, beginning))
            if within(box, self.patches[number]):
                return number
            numbers.append(number)
        # Neither has all of the box, so each has just its half there, and they can be put together.
        one, other = numbers
        return self.sew(("joined", one, other, joined(self.patches[one], self.patches[other])))

    def parted(self, let, at, beginning):
        """Of the rows of each tie those that lie under the beginning at a place."""
        left = []
        for places, rows in zip(self.ground.tied, let):
            if at in places:
                own = places.index(at)
                left.append([row for row in rows if row[own].startswith(beginning)])
            else:
                left.append(rows)
        return left

    def parting(self, box, let):
        """The place at which the box is parted: where a tie leaves a half empty, else the first one, or None."""
        places = [at for at, beginning in enumerate(box) if len(beginning) < FIGURES]
        wished = [at for at in places if self.leaves_half(let, at, len(box[at]))] + places
        return wished[0] if wished else None

    def leaves_half(self, let, at, count):
        """Whether the next figure at a place, behind so many, is the same one in all rows of some tie."""
        for places, rows in zip(self.ground.tied, let):
            if at in places and same_figure(rows, places.index(at), count):
                return True
        return False

    def empty_step(self, box, let):
        """A step for a tie of which no row lies in the box, or None."""
        if [] not in let:
            return None
        tie = let.index([])
        places = self.ground.tied[tie]
        beginnings = widened(self.ground.let[tie], picked(box, places))
        return ("empty", tie, spread(self.ground.question, places, beginnings))

    def less_step(self, box):
        """A step for a pair that has no point in the box, or None."""
        for pair, places in enumerate(self.ground.pairs):
            if self.ground.is_never_less(pair, box):
                first, second = picked(box, places)
                beginnings = widened_pair(first, second)
                return ("less", pair, spread(self.ground.question, places, beginnings))
        return None
