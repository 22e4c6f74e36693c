"""What statements do when they are begun.

A deed returns what goes on behind the statement, its ending: ON if what follows is next, ("give", value),
("raise", value) or ("leave",) if this goes outwards from it, and None if the run stands at a statement already.
"""

from everyanswer.values import (
    Arises, Bound, Family, Function, Instance, Listing, Table, cell_index, is_truth, method_of, put_row, replace_name,
    value_words,
)
from everyanswer.workings import work

ON = ("on",)
MOST_CELLS = 12


def begun(machine, frame, statement):
    """Begins a statement in the newest frame; raises Arises with the error that arises in it."""
    deed = DEEDS[statement[0]]
    return deed(machine, frame, statement)


def handed(machine, frame, statement, result):
    """Goes on with a call behind which this result has come, in the newest frame."""
    _, how, name, _, _ = statement
    if how == "give":
        return ("give", result)
    if how == "let":
        frame.scope.names[name] = result
    elif how == "set":
        replace_name(frame.scope, name, result)
    elif how == "say":
        machine.told.append(value_words(result))
    return ON


def _let(machine, frame, statement):
    frame.scope.names[statement[1]] = work(statement[2], frame)
    return ON


def _set(machine, frame, statement):
    replace_name(frame.scope, statement[1], work(statement[2], frame))
    return ON


def _put(machine, frame, statement):
    owner = work(statement[1], frame)
    worth = work(statement[3], frame)
    if not isinstance(owner, Instance):
        raise Arises("kind")
    owner.fields[statement[2]] = worth
    return ON


def _place(machine, frame, statement):
    goal, key, worth = [work(e, frame) for e in statement[1:]]
    if isinstance(goal, Listing):
        goal.cells[cell_index(len(goal.cells), key)] = worth
    elif isinstance(goal, Table):
        put_row(goal, key, worth)
    else:
        raise Arises("kind")
    return ON


def _add(machine, frame, statement):
    goal, worth = [work(e, frame) for e in statement[1:]]
    if not isinstance(goal, Listing):
        raise Arises("kind")
    if len(goal.cells) == MOST_CELLS:
        raise Arises("great")
    goal.cells.append(worth)
    return ON


def _cut(machine, frame, statement):
    goal = work(statement[1], frame)
    if not isinstance(goal, Listing):
        raise Arises("kind")
    if len(goal.cells) == 0:
        raise Arises("range")
    del goal.cells[-1]
    return ON


def _say(machine, frame, statement):
    machine.told.append(value_words(work(statement[1], frame)))
    return ON


def _if(machine, frame, statement):
    value = work(statement[1], frame)
    if not is_truth(value):
        raise Arises("kind")
    return machine.enter(frame, 0 if value else 1)


def _while(machine, frame, statement):
    value = work(statement[1], frame)
    if not is_truth(value):
        raise Arises("kind")
    if value:
        return machine.enter(frame, 0)
    return ON


def _try(machine, frame, statement):
    return machine.enter(frame, 0)


def _leave(machine, frame, statement):
    return ("leave",)


def _give(machine, frame, statement):
    return ("give", work(statement[1], frame))


def _raise(machine, frame, statement):
    return ("raise", work(statement[1], frame))


def _def(machine, frame, statement):
    frame.scope.names[statement[1]] = Function(frame.edition, frame.path + (0,), frame.scope, None)
    return ON


def _class(machine, frame, statement):
    over = None
    if statement[2] is not None:
        over = work(statement[2], frame)
        if not isinstance(over, Family):
            raise Arises("kind")
    family = Family(over)
    for number, (name, _, _) in enumerate(statement[3]):
        family.methods[name] = Function(frame.edition, frame.path + (number,), frame.scope, family)
    frame.scope.names[statement[1]] = family
    return ON


def _call(machine, frame, statement):
    callee = work(statement[3], frame)
    values = [work(e, frame) for e in statement[4]]
    if isinstance(callee, Bound):
        return machine.push(callee.function, [callee.owner] + values, None)
    if isinstance(callee, Function):
        return machine.push(callee, values, None)
    if not isinstance(callee, Family):
        raise Arises("kind")
    made = Instance(callee)
    method = method_of(callee, "make")
    if method is not None:
        return machine.push(method, [made] + values, made)
    if len(values) > 0:
        raise Arises("count")
    return handed(machine, frame, statement, made)


DEEDS = {
    "let": _let,
    "set": _set,
    "put": _put,
    "place": _place,
    "add": _add,
    "cut": _cut,
    "say": _say,
    "call": _call,
    "if": _if,
    "while": _while,
    "leave": _leave,
    "give": _give,
    "raise": _raise,
    "try": _try,
    "def": _def,
    "class": _class,
}
