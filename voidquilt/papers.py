"""Papers: how they are made and judged, and what they tell."""

from voidquilt.boxes import holds
from voidquilt.errors import TooMany
from voidquilt.ground import Ground
from voidquilt.quilting import Quilt
from voidquilt.steps import Judge, box_of_step
from voidquilt.tongue import need_question

MOST_LET = 100


def ground_for_paper(book, question):
    """The ground of a question whose ties don't let by too many rows for a paper."""
    ground = Ground(book, question)
    if sum([len(rows) for rows in ground.let]) > MOST_LET:
        raise TooMany(MOST_LET)
    return ground


def papered(book, question):
    """A right paper of the question."""
    return Quilt(ground_for_paper(book, question), []).finished()


def fault(book, question, paper):
    """The number of the first step that doesn't hold, the count of steps where the last one isn't whole, or None."""
    judge = Judge(book, question)
    for at, step in enumerate(paper):
        if not judge.passes(step):
            return at
    return None if judge.is_whole() else len(paper)


def answers_in(question, paper):
    """The rising list of the answers of the told steps."""
    need_question(question)
    return sorted({step[1][:question[1]] for step in paper if step[0] == "told"})


def step_box(question, paper, at):
    """The box of the step of this number."""
    need_question(question)
    return box_of_step(question, paper[at])


def reason(question, paper, point):
    """The number of a step that isn't joined and whose box holds the point, by way of the joined ones."""
    need_question(question)
    at = len(paper) - 1
    while paper[at][0] == "joined":
        one, other = paper[at][1:3]
        at = one if holds(box_of_step(question, paper[one]), point) else other
    return at
