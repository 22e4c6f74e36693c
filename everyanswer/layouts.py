"""Where the statements of a block stand, and what may stand there."""

from everyanswer.forms import blocks_of, expressions_of, has_above, is_statement

MOST_IN_BLOCK = 12
MOST_STATEMENTS = 80
DEEPEST_BLOCK = 8


class Place:
    """What the statements of a block have around them.

    depth: that of the block; routine: "top", "def" or "method", after the code to which they belong; looping: whether
    they are within a "while" of this code.
    """

    def __init__(self, depth, routine, looping):
        self.depth = depth
        self.routine = routine
        self.looping = looping


def top_place():
    """The place of the statements of a top block."""
    return Place(1, "top", False)


def inner_place(place, word):
    """The place of the statements in the blocks of a statement that stands at a place and begins with this word."""
    if word == "def":
        return Place(place.depth + 1, "def", False)
    if word == "class":
        return Place(place.depth + 1, "method", False)
    return Place(place.depth + 1, place.routine, place.looping or word == "while")


def fits(statement, place):
    """Whether a statement, its inner statements aside, may stand in a block at this place."""
    word = statement[0]
    if place.depth == DEEPEST_BLOCK and len(blocks_of(statement)) > 0:
        return False
    if word == "leave" and not place.looping:
        return False
    if place.routine == "top" and (word == "give" or word == "call" and statement[1] == "give"):
        return False
    return place.routine == "method" or not has_above(expressions_of(statement))


def _rows(block, at, place):
    """Rows of path, statement and place for a block; behind the first one too many nothing is looked at."""
    return [(at + (index,), thing, place) for index, thing in enumerate(block[:MOST_IN_BLOCK + 1])]


def survey(block):
    """Goes through a block in reading order, up to its first faulty statement.

    Returns the rows of path, statement and place of those ahead of the fault, and its path, or None.
    """
    found = []
    waiting = _rows(block, (), top_place())[::-1]
    while len(waiting) > 0:
        path, thing, place = waiting.pop()
        if len(found) == MOST_STATEMENTS or path[-1] == MOST_IN_BLOCK:
            return found, path
        if not is_statement(thing) or not fits(thing, place):
            return found, path
        found.append((path, thing, place))
        inner = []
        around = inner_place(place, thing[0])
        for number, part in enumerate(blocks_of(thing)):
            inner.extend(_rows(part, path + (number,), around))
        waiting.extend(inner[::-1])
    return found, None


class Layout:
    """The statements and codes of a program, to be looked up by those who change nothing in them."""

    def __init__(self, block):
        rows, _ = survey(block)
        self.order = [path for path, _, _ in rows]
        self.statements = {path: statement for path, statement, _ in rows}
        self.routines = [()]
        self.bodies = {(): block}
        self.parameters = {(): []}
        for path, statement, _ in rows:
            if statement[0] == "def":
                self._keep(path + (0,), statement[2], statement[3])
            elif statement[0] == "class":
                for number, (_, parameters, body) in enumerate(statement[3]):
                    self._keep(path + (number,), parameters, body)

    def _keep(self, code, parameters, body):
        self.routines.append(code)
        self.parameters[code] = parameters
        self.bodies[code] = body

    def code_around(self, path):
        """The code to which the statement at a path belongs."""
        at = path[:-1]
        while at not in self.bodies:
            at = at[:-2]
        return at
