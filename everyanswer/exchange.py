"""Exchanges the block of a code while a program runs."""

from everyanswer.errors import NoCode, NoProgram, NotAsked
from everyanswer.forms import inner_block
from everyanswer.likeness import alike
from everyanswer.moments import Moment
from everyanswer.programs import Program, is_code
from everyanswer.shapes import machine_at


def exchanged(moment, code, block):
    """The moment with one edition more, in which a code has another block."""
    if not moment.asks():
        raise NotAsked()
    editions = moment.programs()
    program = _with_body(editions[-1], code, block)
    shape = _moved(moment.shape(), code, len(editions) - 1)
    return Moment(machine_at(editions + [program], shape))


def safe(moment, code, block):
    """Whether a moment goes on alike when a code gets another block, as alike tells it."""
    return alike(moment, exchanged(moment, code, block))


def _with_body(program, code, block):
    """The program with another block in the place of that of a code."""
    if not is_code(program, code) or code == ():
        raise NoCode()
    if not isinstance(block, list):
        raise NoProgram(code[:-1])
    top = program.block()
    body = inner_block(top, code)
    body[:] = block
    return Program(top)


def _moved(shape, code, newest):
    """The shape of a moment whose newest edition had this number, with the editions behind the exchange of a code."""
    frames, things = shape
    return (
        tuple([_moved_frame(frame, code, newest) for frame in frames]),
        tuple([_moved_thing(thing, code, newest) for thing in things]),
    )


def _moved_frame(frame, code, newest):
    """A frame of the shape; it keeps its edition where its statement is one of the block that was exchanged."""
    edition, path = frame[:2]
    if edition != newest or path[:len(code)] == code:
        return frame
    return (newest + 1,) + frame[1:]


def _moved_thing(thing, code, newest):
    """A thing of the shape; of the functions, those keep their edition whose code is within the exchanged one."""
    if thing[0] != "function" or thing[1] != newest or _is_within(thing[2], code):
        return thing
    return ("function", newest + 1) + thing[2:]


def _is_within(inner, code):
    """Whether a code is within another one."""
    return inner != code and inner[:len(code)] == code
