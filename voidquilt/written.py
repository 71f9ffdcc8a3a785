"""Papers as texts: a row for each step."""

from voidquilt.bits import is_beginning, is_worth
from voidquilt.errors import BadText
from voidquilt.tongue import DIGITS

MOST_DIGITS = 4


def box_text(box):
    return ",".join([beginning if beginning else "*" for beginning in box])


def step_text(step):
    """A step as it is written, without its line feed."""
    if step[0] == "told":
        word, point = step
        return " ".join([word] + [str(worth) for worth in point])
    *things, box = step
    return " ".join([str(thing) for thing in things] + [box_text(box)])


def paper_text(paper):
    """The paper as it is written."""
    return "".join([step_text(step) + "\n" for step in paper])


def number_in(part):
    """The number that a part of a row writes, or None."""
    if not 1 <= len(part) <= MOST_DIGITS or not all([sign in DIGITS for sign in part]):
        return None
    if len(part) > 1 and part[0] == "0":
        return None
    return int(part)


def beginning_in(part):
    """The beginning that a part of a box writes, or None."""
    if part == "*":
        return ""
    return part if part != "" and is_beginning(part) else None


def box_in(part, many):
    """The box of so many places that a part of a row writes, or None."""
    box = tuple([beginning_in(place) for place in part.split(",")])
    return None if None in box or len(box) != many else box


def point_in(parts, many):
    """The point of so many places that the parts write, or None."""
    point = tuple([number_in(part) for part in parts])
    if len(point) != many or not all([is_worth(worth) for worth in point]):
        return None
    return point


NUMBERS = {"empty": 1, "less": 1, "joined": 2}


def step_in(row, many):
    """The step that a row writes, with None among its things where one isn't so written."""
    word, *parts = row.split(" ")
    if word == "told":
        return (word, point_in(parts, many))
    if word not in NUMBERS or len(parts) != NUMBERS[word] + 1:
        return (None,)
    numbers = [number_in(part) for part in parts[:-1]]
    return (word, *numbers, box_in(parts[-1], many))


def read_paper(text, many):
    """The steps that a text writes, of a room of so many places."""
    *rows, rest = text.split("\n")
    steps = []
    for at, row in enumerate(rows):
        step = step_in(row, many)
        if None in step:
            raise BadText(at)
        steps.append(step)
    # Behind the last line feed there is nothing, else the row there lacks its own.
    if rest != "":
        raise BadText(len(rows))
    return steps
