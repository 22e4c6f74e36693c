"""Reads the first line of a statement, or a line else, catch or last."""

from everyanswer.forms import DEEPEST_EXPRESSION, LETTERS
from everyanswer.lines import Line, Unreadable


def head_of(text):
    """What a line without its spaces ahead says: a statement with empty inner blocks, or a tuple of that word.

    Raises Unreadable if no statement has such a line; the limits of lists are not looked at.
    """
    line = Line(text)
    reading = READINGS.get(line.run(LETTERS))
    if reading is None:
        raise Unreadable()
    found = reading(line)
    if not line.at_end():
        raise Unreadable()
    return found


def _called(line, how, name):
    """Reads what follows the word "call" and a space."""
    callee = line.whole()
    line.need("(")
    arguments = []
    more = not line.take(")")
    while more:
        arguments.append(line.whole())
        more = line.take(", ")
        if not more:
            line.need(")")
    return ("call", how, name, callee, arguments)


def _bound(line, word):
    line.need(" ")
    name = line.name()
    line.need(" = ")
    if line.take("call "):
        return _called(line, word, name)
    return (word, name, line.whole())


def _let(line):
    return _bound(line, "let")


def _set(line):
    return _bound(line, "set")


def _handed(line, word):
    line.need(" ")
    if line.take("call "):
        return _called(line, word, None)
    return (word, line.whole())


def _give(line):
    return _handed(line, "give")


def _say(line):
    return _handed(line, "say")


def _call(line):
    line.need(" ")
    return _called(line, "drop", None)


def _put(line):
    line.need(" ")
    # The field or item is read as one expression, so this may be higher by one than a whole one.
    goal, _ = line.expression(DEEPEST_EXPRESSION + 1)
    line.need(" = ")
    worth = line.whole()
    if goal[0] == "get":
        return ("put", goal[1], goal[2], worth)
    if goal[0] == "at":
        return ("place", goal[1], goal[2], worth)
    raise Unreadable()


def _add(line):
    line.need(" ")
    goal = line.whole()
    line.need(", ")
    return ("add", goal, line.whole())


def _ask(line):
    line.need(" ")
    name = line.name()
    line.need(" ")
    return ("ask", name, line.phrase())


def _only(line):
    line.need(" ")
    return line.whole()


def _cut(line):
    return ("cut", _only(line))


def _raise(line):
    return ("raise", _only(line))


def _if(line):
    return ("if", _only(line), [], [])


def _while(line):
    return ("while", _only(line), [])


def _leave(line):
    return ("leave",)


def _try(line):
    return ("try", [], None, [], [])


def _else(line):
    return ("else",)


def _last(line):
    return ("last",)


def _catch(line):
    line.need(" ")
    return ("catch", line.name())


def _def(line):
    line.need(" ")
    name = line.name()
    line.need("(")
    parameters = []
    more = not line.take(")")
    while more:
        parameters.append(line.name())
        more = line.take(", ")
        if not more:
            line.need(")")
    return ("def", name, parameters, [])


def _class(line):
    line.need(" ")
    name = line.name()
    if line.take(" over "):
        return ("class", name, line.whole(), [])
    return ("class", name, None, [])


READINGS = {
    "let": _let,
    "set": _set,
    "put": _put,
    "add": _add,
    "cut": _cut,
    "say": _say,
    "ask": _ask,
    "call": _call,
    "if": _if,
    "else": _else,
    "while": _while,
    "leave": _leave,
    "give": _give,
    "raise": _raise,
    "try": _try,
    "catch": _catch,
    "last": _last,
    "def": _def,
    "class": _class,
}
