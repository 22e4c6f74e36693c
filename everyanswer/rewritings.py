"""Rewritings of programs that change nothing of what they say, ask and come to; and what can be cut out of them."""

from everyanswer.errors import NoName, NoPath, NoPlace, NoProgram, TooMany
from everyanswer.forms import blocks_of, inner_block, is_name
from everyanswer.graphs import MOST_MOMENTS, Growing, whole
from everyanswer.likeness import matched
from everyanswer.moments import start
from everyanswer.programs import Program, is_path
from everyanswer.renaming import Renaming


def turned(program, path):
    """The program with the blocks of an "if" the other way round."""
    _, e, block, other = _statement(program, path, "if")
    return _with_instead(program, path, [("if", ("not", e), other, block)])


def unrolled(program, path):
    """The program with the first round of a "while" ahead of it."""
    statement = _statement(program, path, "while")
    _, e, block = statement
    if _leaves(block):
        raise NoPlace()
    return _with_instead(program, path, [("if", e, block + [statement], [])])


def parted(program, path):
    """The program with a "try" that catches within one that has the last block."""
    _, block, name, caught, last = _statement(program, path, "try")
    if name is None or len(last) == 0:
        raise NoPlace()
    return _with_instead(program, path, [("try", [("try", block, name, caught, [])], None, [], last)])


def wrapped(program, path):
    """The program with a statement in an "if" that always comes to it."""
    return _with_instead(program, path, [("if", ("yes",), [program[path]], [])])


def renamed(program, name, other):
    """The program with another name wherever a name stands."""
    for word in (name, other):
        if not is_name(word) or word == "make":
            raise NoName()
    renaming = Renaming(name, other)
    block = renaming.block(program.block())
    if other in renaming.met:
        raise NoName()
    return Program(block)


def cut_out(program, path):
    """The program without a statement."""
    return _with_instead(program, path, [])


def needless(program):
    """The paths of the statements without which the program is alike."""
    said, moment = start(program)
    lefts = whole(moment, MOST_MOMENTS)
    return [path for path in program.paths() if _is_needless(program, path, said, lefts)]


def _is_needless(program, path, said, lefts):
    """Whether a program that says this ahead of the first moment of this graph is alike without a statement."""
    try:
        words, moment = start(cut_out(program, path))
        return words == said and matched(lefts, Growing(moment, MOST_MOMENTS))[0] == "alike"
    except (NoPlace, TooMany):
        return False


def _statement(program, path, word):
    """The statement at a path, which begins with this word."""
    statement = program[path]
    if statement[0] != word:
        raise NoPlace()
    return statement


def _leaves(block):
    """Whether a block has a "leave" that goes out of it."""
    for statement in block:
        if statement[0] == "leave":
            return True
        # A "leave" within another "while" or another code does not go out of that.
        if statement[0] in ("if", "try") and any([_leaves(inner) for inner in blocks_of(statement)]):
            return True
    return False


def _with_instead(program, path, statements):
    """The program with these statements in the place of the one at a path."""
    if not is_path(program, path):
        raise NoPath()
    top = program.block()
    block = inner_block(top, path[:-1])
    block[path[-1]:path[-1] + 1] = statements
    try:
        return Program(top)
    except NoProgram:
        raise NoPlace()
