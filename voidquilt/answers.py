"""The answers of a question, by going through rows and by walkers."""

from voidquilt.boxes import is_point
from voidquilt.errors import BadPoint
from voidquilt.ties import lets_by, need_fit, own_places, pair_places, picked
from voidquilt.walker import Walker


def with_row(point, places, row):
    """The point with the worths of a row at these places."""
    made = list(point)
    for at, worth in zip(places, row):
        made[at] = worth
    return tuple(made)


def extended(points, known, places, rows):
    """Each point with each row that agrees with it at the places that are known of it."""
    common = [at for at in places if at in known]
    agreeing = {}
    for row in rows:
        shared = tuple([worth for at, worth in zip(places, row) if at in common])
        agreeing.setdefault(shared, []).append(row)
    return [with_row(point, places, row) for point in points for row in agreeing.get(picked(point, common), [])]


def may_fit(point, pairs):
    """Whether no pair speaks against a point, some of whose worths may be None for not known."""
    for first, second in pairs:
        low = point[first]
        high = point[second]
        if low is not None and high is not None and low >= high:
            return False
    return True


def wanted_places(question, tie, known):
    """The places of names that are shown, or that a tie behind this one or a pair not yet looked at asks for."""
    wanted = list(range(question[1]))
    for other in range(tie + 1, len(question[2])):
        wanted.extend(own_places(question, other))
    for pair in pair_places(question):
        if not all([at in known for at in pair]):
            wanted.extend(pair)
    return wanted


def without_rest(points, wanted):
    """The points, each once, with None for the worths that aren't wanted any more."""
    kept = {}
    for point in points:
        kept[tuple([worth if at in wanted else None for at, worth in enumerate(point)])] = True
    return list(kept)


def plain(book, question):
    """The rising list of answers, by going through the rows of one tie after the other."""
    need_fit(book, question)
    pairs = pair_places(question)
    points = [(None,) * len(question[0])]
    known = []
    for tie in range(len(question[2])):
        places = own_places(question, tie)
        points = extended(points, known, places, lets_by(book, question, tie))
        known.extend(places)
        points = [point for point in points if may_fit(point, pairs)]
        points = without_rest(points, wanted_places(question, tie, known))
    return sorted({point[:question[1]] for point in points})


def common_key(walkers, low):
    """The least key, not less than low, to which all walkers can be brought, or None."""
    while True:
        for walker in walkers:
            walker.seek(low)
            if walker.ended():
                return None
        greatest = max([walker.key() for walker in walkers])
        if greatest == low:
            return low
        low = greatest


def bound_ahead(question, at):
    """The places ahead of this one whose names stand in a tie or pair with a name from here on."""
    groups = [own_places(question, tie) for tie in range(len(question[2]))] + pair_places(question)
    split = [group for group in groups if any([place >= at for place in group])]
    return [place for place in range(at) if any([place in group for group in split])]


class Search:
    """Looks for answers name by name, with a walker over what each tie lets by."""

    def __init__(self, book, question):
        need_fit(book, question)
        ties = list(range(len(question[2])))
        rows = [lets_by(book, question, tie) for tie in ties]
        walkers = [Walker(let) for let in rows]
        places = list(range(len(question[0])))
        self.empty = [] in rows
        self.shown = question[1]
        self.pairs = pair_places(question)
        self.teams = [[walkers[tie] for tie in ties if at in own_places(question, tie)] for at in places]
        # What is found from a name on hangs on the worths of these places ahead of it alone;
        # where nothing is found, they are kept as dead, so that it isn't looked for again.
        self.bound = [bound_ahead(question, at) for at in places]
        self.dead = {}
        self.point = []

    def answer_behind(self, last):
        """The least answer greater than last, or of all where it is None; None where there is none."""
        # No worth is as great as the last one's next where that is 32: the search goes on at the place ahead then.
        return self.answer_from(() if last is None else last[:-1] + (last[-1] + 1,))

    def answer_from(self, start):
        """The least answer not less than start, or None."""
        found = None if self.empty else self.least(start)
        return None if found is None else found[:self.shown]

    def least(self, start):
        """The least worths of the names left, not less than start, that fit behind the point so far, or None."""
        at = len(self.point)
        if at == len(self.teams):
            return ()
        mark = (at, picked(self.point, self.bound[at]))
        if mark in self.dead:
            return None
        for walker in self.teams[at]:
            walker.down()
        found = self.least_here(self.teams[at], start)
        for walker in self.teams[at]:
            walker.up()
        if start == () and found is None:
            self.dead[mark] = True
        return found

    def least_here(self, walkers, start):
        low = start[0] if start else 0
        while True:
            worth = common_key(walkers, low)
            if worth is None:
                return None
            self.point.append(worth)
            rest = self.least_rest(worth, start)
            self.point.pop()
            if rest is not None:
                return (worth,) + rest
            low = worth + 1

    def least_rest(self, worth, start):
        if not self.pairs_hold():
            return None
        # Only behind the start's own worth does the rest of the start count.
        return self.least(start[1:] if start[:1] == (worth,) else ())

    def pairs_hold(self):
        """Whether no pair speaks against the point so far."""
        reached = len(self.point)
        return all([self.point[first] < self.point[second] for first, second in self.pairs
                    if max(first, second) < reached])


def after(book, question, last):
    """By walkers, the least answer greater than last, or of all where it is None; None where there is none."""
    search = Search(book, question)
    if last is not None and (not is_point(last) or len(last) != question[1]):
        raise BadPoint()
    return search.answer_behind(last)


def leaps(book, question):
    """The rising list of answers, each looked for behind the one ahead of it."""
    search = Search(book, question)
    told = []
    answer = search.answer_behind(None)
    while answer is not None:
        told.append(answer)
        answer = search.answer_behind(answer)
    return told
