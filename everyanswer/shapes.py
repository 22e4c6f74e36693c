"""The shape of a moment: all on which a run hangs, in one form; and the machine that stands at such a moment."""

from everyanswer.machines import Frame, Machine, first_of
from everyanswer.values import Bound, Family, Function, Instance, Listing, Scope, Table


class Numbering:
    """Numbers things as they are first met."""

    def __init__(self):
        self.met = []
        self.numbers = {}

    def number(self, thing):
        """The number of a thing, or None for None."""
        if thing is None:
            return None
        if thing not in self.numbers:
            self.numbers[thing] = len(self.met)
            self.met.append(thing)
        return self.numbers[thing]

    def value(self, value):
        """A value as a shape tells it."""
        if value is True:
            return ("yes",)
        if value is False:
            return ("no",)
        if value is None or isinstance(value, (int, str)):
            return value
        return ("thing", self.number(value))

    def ending(self, ending):
        """What is kept for a last block, as a shape tells it."""
        return ending[:1] + tuple([self.value(part) for part in ending[1:]])

    def frame(self, frame):
        """A frame as a shape tells it."""
        scope = self.number(frame.scope)
        kept = tuple([self.ending(ending) for ending in frame.kept])
        return (frame.edition, frame.path, scope, kept, self.number(frame.makes), self.number(frame.home))

    def named(self, names):
        """Names with their values, ascending by name."""
        return tuple([(name, self.value(names[name])) for name in sorted(names)])

    def thing(self, thing):
        """A thing as a shape tells it."""
        if isinstance(thing, Scope):
            return ("scope", self.number(thing.around), self.named(thing.names))
        if isinstance(thing, Listing):
            return ("list", tuple([self.value(cell) for cell in thing.cells]))
        if isinstance(thing, Table):
            return ("table", tuple([(self.value(key), self.value(worth)) for key, worth in thing.rows]))
        if isinstance(thing, Function):
            return ("function", thing.edition, thing.code, self.number(thing.scope), self.number(thing.home))
        if isinstance(thing, Bound):
            return ("bound", self.number(thing.owner), self.number(thing.function))
        if isinstance(thing, Family):
            over = self.number(thing.over)
            methods = thing.methods
            return ("class", over, tuple([(name, self.number(methods[name])) for name in sorted(methods)]))
        return ("object", self.number(thing.home), self.named(thing.fields))


def shape_of(frames):
    """The shape of the moment of a run with these frames."""
    numbering = Numbering()
    told = tuple([numbering.frame(frame) for frame in frames])
    things = []
    while len(things) < len(numbering.met):
        things.append(numbering.thing(numbering.met[len(things)]))
    return (told, tuple(things))


def has_shape(frames, shape):
    """Whether the moment of a run with these frames has this shape; no more is told than up to a difference."""
    numbering = Numbering()
    told, rows = shape
    if [numbering.frame(frame) for frame in frames] != list(told):
        return False
    for index, row in enumerate(rows):
        # As long as nothing differs, the same numbers have been told, so this thing has been met.
        if numbering.thing(numbering.met[index]) != row:
            return False
    return True


def _blank(told):
    """A thing of the kind that a shape tells, still without what it holds."""
    word = told[0]
    if word == "scope":
        return Scope(None)
    if word == "list":
        return Listing([])
    if word == "table":
        return Table()
    if word == "function":
        return Function(told[1], told[2], None, None)
    if word == "bound":
        return Bound(None, None)
    if word == "class":
        return Family(None)
    return Instance(None)


def _thing(number, things):
    """The thing with this number, or None."""
    if number is None:
        return None
    return things[number]


def _value(told, things):
    """The value that a shape tells."""
    if not isinstance(told, tuple):
        return told
    if told[0] == "thing":
        return things[told[1]]
    return told[0] == "yes"


def _fill(thing, told, things):
    """Gives a blank thing what the shape tells of it."""
    if isinstance(thing, Scope):
        thing.around = _thing(told[1], things)
        thing.names = {name: _value(value, things) for name, value in told[2]}
    elif isinstance(thing, Listing):
        thing.cells = [_value(value, things) for value in told[1]]
    elif isinstance(thing, Table):
        thing.rows = [(_value(key, things), _value(value, things)) for key, value in told[1]]
    elif isinstance(thing, Function):
        thing.scope = _thing(told[3], things)
        thing.home = _thing(told[4], things)
    elif isinstance(thing, Bound):
        thing.owner = things[told[1]]
        thing.function = things[told[2]]
    elif isinstance(thing, Family):
        thing.over = _thing(told[1], things)
        thing.methods = {name: things[number] for name, number in told[2]}
    else:
        thing.home = things[told[1]]
        thing.fields = {name: _value(value, things) for name, value in told[2]}


def _frame(told, editions, things):
    """The frame that a shape tells."""
    edition, path, scope, kept, makes, home = told
    layout = editions[edition].layout
    first = first_of(layout.parameters[layout.code_around(path)])
    frame = Frame(edition, path, things[scope], _thing(makes, things), _thing(home, things), first)
    frame.kept = [ending[:1] + tuple([_value(part, things) for part in ending[1:]]) for ending in kept]
    return frame


def machine_at(editions, shape):
    """A machine of its own that stands at the moment with this shape, which is not that of an end."""
    frames, rows = shape
    things = [_blank(told) for told in rows]
    for thing, told in zip(things, rows):
        _fill(thing, told, things)
    return Machine(editions, [_frame(told, editions, things) for told in frames])
