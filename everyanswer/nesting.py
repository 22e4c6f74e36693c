"""Puts the lines of a text together to a block, line by line."""

from everyanswer.forms import blocks_of, is_statement
from everyanswer.heads import head_of
from everyanswer.layouts import MOST_IN_BLOCK, MOST_STATEMENTS, fits, inner_place, top_place
from everyanswer.lines import Unreadable


class Level:
    """An open block, or an open class that takes methods.

    indent: how many spaces its lines have ahead; stored: its statements so far; owing: whether it must not stay
    empty; family: the class statement that takes methods, or None.
    """

    def __init__(self, indent, block, place, owing, family):
        self.indent = indent
        self.stored = block
        self.place = place
        self.owing = owing
        self.family = family


def _lacks_part(block):
    """Whether the newest statement of a block is a "try" that still needs a line catch or last."""
    if len(block) == 0:
        return False
    newest = block[-1]
    return newest[0] == "try" and newest[2] is None and len(newest[4]) == 0


class Reader:
    """Takes lines as long as some text of a program begins with them; raises Unreadable for the first one behind."""

    def __init__(self):
        self.top = []
        self.levels = [Level(0, self.top, top_place(), False, None)]
        self.many = 0

    def take_line(self, text):
        """Takes the next line."""
        body = text.lstrip(" ")
        indent = len(text) - len(body)
        found = head_of(body)
        while self.levels[-1].indent > indent:
            self._leave_level()
        level = self.levels[-1]
        if level.indent != indent:
            raise Unreadable()
        if level.family is not None:
            self._take_method(level, found)
        elif found[0] == "else" or found[0] == "last" or found[0] == "catch":
            self._take_part(level, found)
        else:
            self._take_statement(level, found)

    def end(self):
        """The block of all lines; raises Unreadable if some are missing."""
        while len(self.levels) > 0:
            self._leave_level()
        return self.top

    def _leave_level(self):
        level = self.levels.pop()
        if level.owing and len(level.stored) == 0 or _lacks_part(level.stored):
            raise Unreadable()

    def _take_statement(self, level, statement):
        if _lacks_part(level.stored) or len(level.stored) == MOST_IN_BLOCK or self.many == MOST_STATEMENTS:
            raise Unreadable()
        # A "try" becomes a statement only by lines that follow; it has nothing to be looked at yet.
        if statement[0] != "try" and not is_statement(statement) or not fits(statement, level.place):
            raise Unreadable()
        self.many += 1
        level.stored.append(statement)
        if statement[0] == "class":
            self.levels.append(Level(level.indent + 2, [], level.place, False, statement))
        elif len(blocks_of(statement)) > 0:
            self._open_block(level, 0, False)

    def _open_block(self, level, number, owing):
        """Opens a block of the newest statement of a level."""
        statement = level.stored[-1]
        block = blocks_of(statement)[number]
        self.levels.append(Level(level.indent + 2, block, inner_place(level.place, statement[0]), owing, None))

    def _take_part(self, level, found):
        """Takes a line else, catch or last for the newest statement of a level."""
        if len(level.stored) == 0:
            raise Unreadable()
        statement = level.stored[-1]
        word = found[0]
        # Behind "else" and "last" a statement has to follow.
        if word != "catch" and self.many == MOST_STATEMENTS:
            raise Unreadable()
        if word == "else" and statement[0] == "if" and len(statement[3]) == 0:
            self._open_block(level, 1, True)
        elif word == "last" and statement[0] == "try" and len(statement[4]) == 0:
            self._open_block(level, 2, True)
        elif word == "catch" and statement[0] == "try" and statement[2] is None and len(statement[4]) == 0:
            level.stored[-1] = ("try", statement[1], found[1], statement[3], statement[4])
            self._open_block(level, 1, False)
        else:
            raise Unreadable()

    def _take_method(self, level, found):
        """Takes the first line of a method of a class."""
        if found[0] != "def":
            raise Unreadable()
        family = level.family
        family[3].append((found[1], found[2], found[3]))
        if not is_statement(family) or not fits(family, level.place):
            raise Unreadable()
        self.levels.append(Level(level.indent + 2, found[3], inner_place(level.place, "class"), False, None))
