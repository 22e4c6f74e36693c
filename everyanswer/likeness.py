"""Which moments, also of two programs, go on alike for every row of answers."""

from everyanswer.graphs import MOST_MOMENTS, explored, whole
from everyanswer.moments import Moment, firm, led_on, start
from everyanswer.runs import are_answers


def alike(one, other):
    """The pairs of moments to which two moments come by the same answers, or the first shortest row that parts them."""
    lefts = whole(one, MOST_MOMENTS)
    return matched(lefts, whole(other, MOST_MOMENTS))


def matched(lefts, rights):
    """The same for the first moments of two graphs, which are made no further than this needs them.

    Where the two are alike, both have been made to their ends.
    """
    if lefts.moments[0].event() != rights.moments[0].event():
        return ("apart", [])
    pairs = [(0, 0)]
    # From which pair, by which answer, each pair was come to first.
    ways = {(0, 0): None}
    at = 0
    while at < len(pairs):
        left, right = pairs[at]
        for answer, (said, goal, _), (words, aim, _) in zip((False, True), lefts.behind(left), rights.behind(right)):
            if said != words or lefts.moments[goal].event() != rights.moments[aim].event():
                return ("apart", _row_to(ways, pairs[at]) + [answer])
            if (goal, aim) not in ways:
                ways[(goal, aim)] = (pairs[at], answer)
                pairs.append((goal, aim))
        at += 1
    return ("alike", pairs)


def _row_to(ways, pair):
    """The answers with which a pair was come to first."""
    row = []
    while ways[pair] is not None:
        pair, answer = ways[pair]
        row.append(answer)
    return row[::-1]


def alike_programs(one, other):
    """The same for the runs of two programs from their beginnings."""
    said, left = start(one)
    words, right = start(other)
    if said != words or left.event() != right.event():
        return ("apart", [])
    return alike(left, right)


class Known:
    """Moments with a number each, equal ones with the same number, and the runs that have been led from them."""

    def __init__(self):
        self.editions = []
        self.numbers = {}
        self.moments = []
        self.runs = {}

    def number(self, moment):
        """The number of a moment."""
        programs = moment.programs()
        if programs not in self.editions:
            self.editions.append(programs)
        mark = (self.editions.index(programs),) + moment.mark()
        if mark not in self.numbers:
            self.numbers[mark] = len(self.moments)
            self.moments.append(moment)
        return self.numbers[mark]

    def run(self, number, answer):
        """What is said behind an answer, and the number of the moment there."""
        if (number, answer) not in self.runs:
            said, goal = led_on(self.moments[number], answer)
            self.runs[(number, answer)] = (said, self.number(goal))
        return self.runs[(number, answer)]


def relation_fault(one, other, thing):
    """What is wrong with a thing that should be pairs of moments by which two moments are alike, or None."""
    if not _is_relation(thing):
        return ("form",)
    known = Known()
    pairs = [(known.number(left), known.number(right)) for left, right in thing]
    there = {pair: True for pair in pairs}
    if (known.number(one), known.number(other)) not in there:
        return ("start",)
    for k, (left, right) in enumerate(pairs):
        if known.moments[left].event() != known.moments[right].event():
            return ("event", k)
        answers = (False, True) if known.moments[left].asks() else ()
        for answer in answers:
            said, goal = known.run(left, answer)
            words, aim = known.run(right, answer)
            if said != words:
                return ("said", k, answer)
            if (goal, aim) not in there:
                return ("behind", k, answer)
    return None


def _is_relation(thing):
    """Whether a thing is a list of pairs of moments."""
    return isinstance(thing, list) and all([_is_pair(part) for part in thing])


def _is_pair(thing):
    """Whether a thing is a pair of moments."""
    return isinstance(thing, tuple) and len(thing) == 2 and all([isinstance(part, Moment) for part in thing])


def apart_fault(one, other, thing):
    """What is wrong with a thing that should be answers that part two moments, or None."""
    if not are_answers(thing):
        return ("form",)
    if one.event() != other.event():
        return None
    for index, answer in enumerate(thing):
        if not one.asks():
            return ("over", index)
        said, one = led_on(one, answer)
        words, other = led_on(other, answer)
        if said != words or one.event() != other.event():
            return None
    return ("kept",)


def kinds(moment):
    """The indexes of the moments of a graph, parted into those of alike moments."""
    rows = explored(moment, MOST_MOMENTS)
    goals = [[goal for _, goal, _ in behind] for _, behind in rows]
    marks = _numbered([_told(node, behind) for node, behind in rows])
    finer = _refined(marks, goals)
    while max(finer) > max(marks):
        marks = finer
        finer = _refined(marks, goals)
    parts = [[] for _ in range(max(marks) + 1)]
    for index, mark in enumerate(marks):
        parts[mark].append(index)
    return parts


def _told(node, behind):
    """What tells a moment of a graph from others at once: its event and what is said behind its answers."""
    return firm(node.event()) + tuple([tuple(said) for said, _, _ in behind])


def _refined(marks, goals):
    """The numbers of moments that are parted by their own numbers and by those of the moments behind them."""
    return _numbered([(mark,) + tuple([marks[goal] for goal in row]) for mark, row in zip(marks, goals)])


def _numbered(tuples):
    """A number for each tuple, equal ones with the same number, in the order in which they are first met."""
    numbers = {}
    for one in tuples:
        if one not in numbers:
            numbers[one] = len(numbers)
    return [numbers[one] for one in tuples]
