"""The steps of a paper: which box a step has, and whether it holds."""

from voidquilt.bits import is_number
from voidquilt.boxes import box_of, is_box, is_point, joined, whole
from voidquilt.ground import Ground


def told_box(point, shown):
    """The box with the figures of the shown names and empty beginnings for the hidden ones."""
    return box_of(point)[:shown] + whole(len(point) - shown)


def box_of_step(question, step):
    """The box of a step that is one."""
    return told_box(step[1], question[1]) if step[0] == "told" else step[-1]


def moved(step, places):
    """The step with the numbers within it, where it is joined, led over to new places."""
    if step[0] != "joined":
        return step
    word, one, other, box = step
    return (word, places[one], places[other], box)


def led_over(steps, numbers):
    """The steps of these rising numbers alone; joined ones are of others among them."""
    places = {number: at for at, number in enumerate(numbers)}
    return [moved(steps[number], places) for number in numbers]


def held_empty(judge, tie, box):
    if not is_number(tie, 0, len(judge.ground.tied)) or not judge.is_own(box):
        return None
    return box if judge.ground.is_empty(tie, box) else None


def held_less(judge, pair, box):
    if not is_number(pair, 0, len(judge.ground.pairs)) or not judge.is_own(box):
        return None
    return box if judge.ground.is_never_less(pair, box) else None


def held_told(judge, point):
    ground = judge.ground
    if not is_point(point) or len(point) != len(ground.room):
        return None
    answer = point[:ground.shown]
    if answer in judge.answers:
        return None
    judge.answers[answer] = True
    return told_box(point, ground.shown) if ground.fits(box_of(point)) else None


def held_joined(judge, one, other, box):
    passed = judge.passed_boxes
    if not is_number(one, 0, len(passed)) or not is_number(other, 0, len(passed)):
        return None
    if passed[one] is None or passed[other] is None:
        return None
    made = joined(passed[one], passed[other])
    return made if made == box else None


CHECKS = {"empty": held_empty, "less": held_less, "told": held_told, "joined": held_joined}
COUNTS = {"empty": 3, "less": 3, "told": 2, "joined": 4}


class Judge:
    """Goes through the steps of a paper, one behind the other, and sees which of them hold."""

    def __init__(self, book, question):
        self.ground = Ground(book, question)
        # For each step gone through its box, or None where it doesn't hold: so one joined of such ones doesn't either.
        self.passed_boxes = []
        # Also those of told steps that don't hold, for a later one with the same box doesn't hold all the same.
        self.answers = {}

    def is_own(self, thing):
        """Whether anything at all is a box of the question's room."""
        return is_box(thing) and len(thing) == len(self.ground.room)

    def held(self, step):
        """The box of anything in the place of a step, or None where it doesn't hold."""
        if not isinstance(step, tuple) or len(step) == 0 or not isinstance(step[0], str):
            return None
        word, *things = step
        if COUNTS.get(word) != len(step):
            return None
        check = CHECKS[word]
        return check(self, *things)

    def passes(self, step):
        """Go through the next step; whether it holds."""
        box = self.held(step)
        self.passed_boxes.append(box)
        return box is not None

    def is_whole(self):
        """Whether the box of the last step gone through is the whole room's."""
        return self.passed_boxes[-1:] == [self.ground.room]
