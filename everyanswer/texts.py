"""Programs as texts, and texts as programs."""

from everyanswer.errors import NoText
from everyanswer.lines import Unreadable
from everyanswer.nesting import Reader
from everyanswer.programs import Program
from everyanswer.writing import block_lines


def program_text(program):
    """The text of a program."""
    return "\n".join(block_lines(program.layout.bodies[()], ""))


def read(text):
    """The program whose text this is."""
    if not isinstance(text, str):
        raise NoText(-1)
    lines = []
    if text != "":
        lines = text.split("\n")
    reader = Reader()
    for index, line in enumerate(lines):
        try:
            reader.take_line(line)
        except Unreadable:
            raise NoText(index) from None
    try:
        block = reader.end()
    except Unreadable:
        raise NoText(len(lines)) from None
    return Program(block)
