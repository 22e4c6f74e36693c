"""What several tests need."""

import inspect
import sys

from everyanswer.errors import TooMany
from everyanswer.moments import start
from everyanswer.runs import events
from everyanswer.texts import read

YES = ("yes",)
NO = ("no",)
NONE = ("none",)


def num(n):
    return ("number", n)


def text(phrase):
    return ("text", phrase)


def name(word):
    return ("name", word)


def say(n=1):
    return ("say", num(n))


# A statement of each kind that may stand in the top block outside of a while, but for those that have blocks.
ALL_KINDS = [
    ("let", "a", YES), ("set", "a", YES), ("put", name("o"), "x", num(1)), ("place", name("l"), num(0), num(1)),
    ("add", name("l"), num(1)), ("cut", name("l")), say(2), ("ask", "a", "q"), ("call", "drop", None, name("f"), []),
    ("raise", text("a")), ("class", "k", None, []),
]
# What is no path, no code, no name, no block and no expression.
NOTHING = [None, True, False, 0, -1, "", "0", "let", "a b", {}, {0: 1}, ("no such",), (("a",),), ([],), [[]], 1 << 70]


def lines(*rows):
    return "\n".join(rows)


# Counts the answers, and begins anew behind so many: as many moments as this number.
TURNS = lines("let n = 0", "let a = no", "while yes", "  ask a 'q'", "  let a = no", "  set n = (n + 1)", "  if (n == {})",
              "    set n = 0")


def run(program, answers=()):
    """The events of the program with this text."""
    return events(read(program), list(answers))


def last(program, answers=()):
    """The last event."""
    return run(program, answers)[-1]


def said(program, answers=()):
    """The words said by a run that ends."""
    found = run(program, answers)
    assert found[-1] == ("ended",), found
    return [event[1] for event in found if event[0] == "say"]


def fails(program, answers=()):
    """The words with which a run fails."""
    found = run(program, answers)
    assert found[-1][0] == "failed", found
    return found[-1][1]


def at(program, answers=()):
    """The moment to which the program with this text comes with these answers."""
    _, moment = start(read(program))
    for answer in answers:
        _, moment = moment.answered(answer)
    return moment


def shape(*rows):
    """The shape at the first question or the end of the program with these lines."""
    return at(lines(*rows)).shape()


def things(*rows):
    """The things of that shape, the scope of the bottom frame first."""
    return shape(*rows)[1]


def worth(e, *ahead):
    """The words of an expression, behind these statements; both are texts."""
    return said(lines(*ahead, f"say {e}"))[-1]


def fault(e, *ahead):
    """The error that arises in an expression, behind these statements; both are texts."""
    return fails(lines(*ahead, f"say {e}"))


def many_of(function, *values):
    """The number that is exceeded."""
    try:
        function(*values)
    except TooMany as e:
        return e.many
    return None


def counted(many):
    """Lines that begin 3 + 2 * many statements: two lets, the whiles and the sets."""
    return [f"let m = (({many // 100} * 100) + {many % 100})", "let n = 0", "while (n < m)", "  set n = (n + 1)"]


def nested(depth, innermost, wrap):
    """A statement wrapped so often."""
    for _ in range(depth):
        innermost = wrap(innermost)
    return innermost


def lists_in(value):
    """All lists and dicts within a value, as they stand."""
    out = []
    if isinstance(value, (list, tuple)):
        if isinstance(value, list):
            out.append(value)
        for part in value:
            out.extend(lists_in(part))
    return out


def shallow(function, *values):
    """What a function returns that may not go deeper than a few hundred calls."""
    before = sys.getrecursionlimit()
    sys.setrecursionlimit(len(inspect.stack()) + 250)
    try:
        return function(*values)
    finally:
        sys.setrecursionlimit(before)
