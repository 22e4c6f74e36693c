"""Leads runs from question to question."""

from everyanswer.errors import NoAnswers, TooMany
from everyanswer.machines import started
from everyanswer.shapes import has_shape, machine_at, shape_of

MOST_BEGUN = 3000
# Behind so many statements a run is looked at for whether it goes on for ever. The last of these numbers alone
# decides; the ones ahead of it spare most such runs the whole way.
LOOKS = (60, 600, 3000)


def are_answers(thing):
    """Whether a thing is a list of answers."""
    return isinstance(thing, list) and all([isinstance(part, bool) for part in thing])


def events(program, answers):
    """What happens in a run of a program with a row of answers, in order."""
    if not are_answers(answers):
        raise NoAnswers()
    machine = started(program)
    said, event = lead(machine)
    out = [("say", line) for line in said]
    for answer in answers:
        if event[0] != "ask":
            break
        out.append(event)
        machine.answer(answer)
        said, event = lead(machine)
        out.extend([("say", line) for line in said])
    if event[0] == "ask":
        event = ("wait", event[1])
    out.append(event)
    return out


def lead(machine, watch=None):
    """Leads a machine on to its next question or its end; one that goes on for ever is ended there.

    Returns the words said since the last question and the event. A watch looks at the machine wherever a statement is
    begun, in a run that goes on for ever at least once for each moment of it.
    """
    start = shape_of(machine.frames)
    ahead = machine.take_told()
    steps = 0
    last = 0
    for most in LOOKS:
        while machine.event() is None and steps < most:
            if watch is not None:
                watch.look(machine)
            machine.step()
            steps += 1
            if machine.stands_at_while():
                last = steps
        if machine.event() is not None:
            if watch is not None and machine.over is None:
                watch.look(machine)
            return ahead + machine.take_told(), machine.event()
        found = _round(machine.editions, start, last)
        if found is not None:
            said, rows = _shortest(ahead + found[0], found[1])
            machine.finish(("ever", rows))
            return said, machine.event()
    raise TooMany(MOST_BEGUN)


def _round(editions, start, last):
    """Looks for a moment that comes again behind so many steps from the start, where a "while" is next.

    Returns what is said ahead of it and what is said from there until it comes again, or None. Nothing hangs on which
    moment is taken: where any of the moments at a "while" comes again, the last one up to there has come before, too.
    """
    goal = machine_at(editions, start)
    for _ in range(last):
        goal.step()
    shape = shape_of(goal.frames)
    machine = machine_at(editions, start)
    for _ in range(last):
        if has_shape(machine.frames, shape):
            ahead = machine.take_told()
            return ahead, goal.take_told()[len(ahead):]
        machine.step()
    return None


def _shortest(ahead, rows):
    """The shortest lists that say the same as a list with rows behind it that are repeated without end."""
    rows = _shortest_rows(rows)
    many = 0
    while len(rows) > 0 and many < len(ahead) and ahead[-1 - many] == rows[-1 - many % len(rows)]:
        many += 1
    if many == 0:
        return ahead, rows
    turned = len(rows) - many % len(rows)
    return ahead[:-many], rows[turned:] + rows[:turned]


def _shortest_rows(rows):
    """The shortest list that, repeated, gives these rows."""
    for size in range(1, len(rows)):
        if len(rows) % size == 0 and rows[:size] * (len(rows) // size) == rows:
            return rows[:size]
    return rows
