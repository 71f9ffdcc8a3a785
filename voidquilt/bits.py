"""Worths, their figures, and the beginnings of these."""

from voidquilt.errors import BadBeginning, BadWorth

WORTHS = 32
FIGURES = 5


def is_number(thing, low, behind):
    """Whether anything at all is a number from low to below behind."""
    # Python counts True and False among the integers; here they are no numbers.
    return isinstance(thing, int) and not isinstance(thing, bool) and low <= thing < behind


def is_worth(thing):
    return is_number(thing, 0, WORTHS)


def is_beginning(thing):
    """Whether anything at all is a text of 0 to 5 signs 0 and 1."""
    return isinstance(thing, str) and len(thing) <= FIGURES and all([sign in "01" for sign in thing])


def need_beginning(beginning):
    if not is_beginning(beginning):
        raise BadBeginning()


def figures(worth):
    """The five signs of a worth, its digits by twos."""
    if not is_worth(worth):
        raise BadWorth()
    return f"{worth:b}".zfill(FIGURES)


def span(beginning):
    """(low, behind): under the beginning are the worths from low to below behind."""
    need_beginning(beginning)
    low = 0
    behind = WORTHS
    for sign in beginning:
        middle = (low + behind) // 2
        if sign == "0":
            behind = middle
        else:
            low = middle
    return (low, behind)


def brother(beginning):
    """The beginning with its last sign turned."""
    need_beginning(beginning)
    if beginning == "":
        raise BadBeginning()
    turned = "1" if beginning[-1] == "0" else "0"
    return beginning[:-1] + turned


def shortest(worth, worths):
    """The shortest beginning of the worth under which none of the worths lies, or None."""
    own = figures(worth)
    others = [figures(other) for other in worths]
    for count in range(FIGURES + 1):
        beginning = own[:count]
        if not any([other.startswith(beginning) for other in others]):
            return beginning
    return None
