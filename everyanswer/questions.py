"""What holds for the statements of a program, whatever the answers: whether they are begun, and with which values."""

from everyanswer.errors import NoName, NoPath
from everyanswer.forms import is_name
from everyanswer.graphs import MOST_MOMENTS, explored
from everyanswer.moments import led_from
from everyanswer.programs import is_path
from everyanswer.runs import are_answers
from everyanswer.values import scope_with, value_words


class Watch:
    """Sees where the statement at a path is begun and, unless None is sought, with which words of the name sought.

    It watches runs of one edition only, so that the path alone tells the statement.
    """

    def __init__(self, path, sought):
        self.path = path
        self.sought = sought
        self.seen = False
        self.words = {}

    def look(self, machine):
        """Looks at a machine that stands ahead of a statement that is begun."""
        frame = machine.frames[-1]
        if frame.path != self.path:
            return
        self.seen = True
        if self.sought is None:
            return
        holder = scope_with(frame.scope, self.sought)
        if holder is not None:
            self.words[value_words(holder.names[self.sought])] = True

    def take(self):
        """Whether the statement has been begun since this was asked last."""
        seen = self.seen
        self.seen = False
        return seen


def ever(program, path):
    """The first shortest row of answers behind which a statement has been begun, or that there is none."""
    _check_path(program, path)
    begun, rows = _watched(program, Watch(path, None))
    if begun:
        return ("answers", [])
    # A graph's moments stand in the order of the first shortest rows that lead to them, so the first one will do.
    ways = {0: []}
    for index, (_, behind) in enumerate(rows):
        for answer, (_, goal, begun) in zip((False, True), behind):
            row = ways[index] + [answer]
            if begun:
                return ("answers", row)
            ways.setdefault(goal, row)
    return ("never", len(rows))


def always(program, path):
    """Behind how many answers every run has begun a statement, or answers with which it is never begun."""
    _check_path(program, path)
    begun, rows = _watched(program, Watch(path, None))
    if begun:
        return ("always", 0)
    bounds = _bounds(rows)
    if 0 in bounds:
        return ("always", bounds[0])
    return _avoiding(rows, bounds)


def avoids_fault(program, path, thing):
    """What is wrong with a thing that should be answers with which a statement is never begun, or None."""
    _check_path(program, path)
    if not _is_avoids(thing):
        return ("form",)
    begun, rows = _watched(program, Watch(path, None))
    _, row, turn = thing
    here, fault, found = _followed(rows, 0, row)
    begun = begun or found
    if fault is not None:
        return ("ended", fault)
    if len(turn) == 0 and len(rows[here][1]) > 0:
        return ("open",)
    # A round that begins at a moment at which an earlier one began brings nothing new.
    known = {}
    while len(turn) > 0 and here not in known:
        known[here] = True
        here, fault, found = _followed(rows, here, turn)
        begun = begun or found
        if fault is not None:
            return ("ended", len(row) + fault)
    if begun:
        return ("begun",)
    return None


def values(program, path, name):
    """The words that a name has wherever a statement is begun, ascending."""
    _check_path(program, path)
    if not is_name(name):
        raise NoName()
    watch = Watch(path, name)
    _watched(program, watch)
    return sorted(watch.words)


def _check_path(program, path):
    if not is_path(program, path):
        raise NoPath()


def _watched(program, watch):
    """Whether a watch sees anything ahead of the first question, and the graph of the moment there with the watch."""
    _, moment = led_from(program, watch)
    return watch.take(), explored(moment, MOST_MOMENTS, watch)


def _bounds(rows):
    """Behind how many answers all runs from a moment have begun the statement, for each moment of which this holds."""
    bounds = {}
    many = -1
    while many < len(bounds):
        many = len(bounds)
        for index, (_, behind) in enumerate(rows):
            if index in bounds or len(behind) == 0:
                continue
            if all([begun or goal in bounds for _, goal, begun in behind]):
                bounds[index] = 1 + max([0 if begun else bounds[goal] for _, goal, begun in behind])
    return bounds


def _avoiding(rows, bounds):
    """Answers with which the run stays at moments without a bound: a row, and a turn to go on with."""
    here = 0
    answers = []
    passed = {}
    while here not in passed and len(rows[here][1]) > 0:
        passed[here] = len(answers)
        # With one of the two answers the run stays without a bound, otherwise this moment would have one.
        answer = not _stays(rows[here][1][0], bounds)
        answers.append(answer)
        here = rows[here][1][int(answer)][1]
    many = passed.get(here, len(answers))
    return ("avoids", answers[:many], answers[many:])


def _stays(run, bounds):
    """Whether a run does not begin the statement and comes to a moment without a bound."""
    _, goal, begun = run
    return not begun and goal not in bounds


def _is_avoids(thing):
    """Whether a thing has the form of answers with which a statement is never begun."""
    if not isinstance(thing, tuple) or len(thing) != 3:
        return False
    word, row, turn = thing
    return word == "avoids" and are_answers(row) and are_answers(turn)


def _followed(rows, here, answers):
    """Goes on from a moment with answers, as far as there are questions.

    Returns the last moment, the index of the first answer that is not asked for or None, and whether the statement is
    begun on the way.
    """
    seen = False
    for index, answer in enumerate(answers):
        if len(rows[here][1]) == 0:
            return here, index, seen
        _, here, begun = rows[here][1][int(answer)]
        seen = seen or begun
    return here, None, seen
