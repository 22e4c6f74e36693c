"""Programs: blocks of statements that keep the rules of the language."""

from everyanswer.errors import NoCode, NoPath, NoProgram
from everyanswer.forms import fresh, is_integers
from everyanswer.layouts import MOST_IN_BLOCK, Layout, survey


class Program:
    """A program; it does not change. layout is for the package alone, which changes nothing in it."""

    def __init__(self, block):
        if not isinstance(block, list) or len(block) > MOST_IN_BLOCK:
            raise NoProgram(())
        _, fault = survey(block)
        if fault is not None:
            raise NoProgram(fault)
        self._top = fresh(block)
        self.layout = Layout(self._top)

    def block(self):
        """The top block."""
        return fresh(self._top)

    def __getitem__(self, at):
        if not is_path(self, at):
            raise NoPath()
        return fresh(self.layout.statements[at])

    def __iter__(self):
        raise TypeError("a program is asked for its paths")

    def __len__(self):
        return len(self.layout.order)

    def paths(self):
        """The paths of all statements, in reading order."""
        return list(self.layout.order)

    def codes(self):
        """All codes, the one of the top block first."""
        return list(self.layout.routines)

    def body(self, code):
        """The block of a code."""
        if not is_code(self, code):
            raise NoCode()
        return fresh(self.layout.bodies[code])

    def __eq__(self, other):
        return isinstance(other, Program) and self._top == other._top


def is_path(program, thing):
    """Whether a thing is the path of a statement of a program."""
    return is_integers(thing) and thing in program.layout.statements


def is_code(program, thing):
    """Whether a thing is a code of a program."""
    return is_integers(thing) and thing in program.layout.bodies
