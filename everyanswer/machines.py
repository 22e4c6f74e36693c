"""Runs of programs, statement by statement."""

from everyanswer.deeds import ON, begun, handed
from everyanswer.values import Arises, Scope, replace_name, value_words

MOST_FRAMES = 20


class Frame:
    """A frame of a run.

    kept holds what is kept for each last block that is being executed, the outermost first; makes is the object that
    the frame makes, home its class, first the name of the first parameter of its code, each of them perhaps None.
    """

    def __init__(self, edition, path, scope, makes, home, first):
        self.edition = edition
        self.path = path
        self.scope = scope
        self.kept = []
        self.makes = makes
        self.home = home
        self.first = first


class Machine:
    """A run: its editions and frames, what it has told since that was last taken, and its end, or None."""

    def __init__(self, editions, frames):
        self.editions = editions
        self.frames = frames
        self.told = []
        self.over = None

    def layout_of(self, edition):
        """The layout of the program of an edition."""
        return self.editions[edition].layout

    def statement(self):
        """The statement at which the run stands."""
        frame = self.frames[-1]
        return self.layout_of(frame.edition).statements[frame.path]

    def event(self):
        """The question at which the run stands, or its end; None ahead of another statement."""
        if self.over is not None:
            return self.over
        statement = self.statement()
        if statement[0] == "ask":
            return ("ask", statement[2])
        return None

    def stands_at_while(self):
        """Whether a "while" is the next statement."""
        return self.over is None and self.statement()[0] == "while"

    def step(self):
        """Begins the next statement, which is no "ask", and goes on until a statement is next or the run is over."""
        frame = self.frames[-1]
        try:
            ending = begun(self, frame, self.statement())
        except Arises as e:
            ending = ("raise", e.worth)
        self._carry(ending)

    def answer(self, answer):
        """Answers the question at which the run stands, and goes on in the same way."""
        frame = self.frames[-1]
        ending = ON
        try:
            replace_name(frame.scope, self.statement()[1], answer)
        except Arises as e:
            ending = ("raise", e.worth)
        self._carry(ending)

    def finish(self, event):
        """Ends the run with this event."""
        self.frames = []
        self.over = event

    def take_told(self):
        """What has been told since this was asked last."""
        told = self.told
        self.told = []
        return told

    def push(self, function, values, makes):
        """Calls a function with these values, in a frame that makes this object or, with None, none."""
        layout = self.layout_of(function.edition)
        parameters = layout.parameters[function.code]
        if len(values) != len(parameters):
            raise Arises("count")
        if len(self.frames) == MOST_FRAMES:
            raise Arises("deep")
        path = function.code + (0,)
        if path not in layout.statements:
            # A frame without statements ends at once; the run never stands in it.
            return handed(self, self.frames[-1], self.statement(), makes)
        self.frames.append(new_frame(function, path, parameters, values, makes))
        return None

    def enter(self, frame, number):
        """Goes into the block with this number of the statement at which the newest frame stands."""
        if self._moved(frame, number):
            return None
        return self._block_ended(frame, number)

    def _moved(self, frame, number):
        """Moves the newest frame into a block of its statement, unless the block is empty; whether it did."""
        path = frame.path + (number, 0)
        if path not in self.layout_of(frame.edition).statements:
            return False
        frame.path = path
        return True

    def _carry(self, ending):
        """Carries an ending on until a statement is next or the run is over."""
        while ending is not None:
            frame = self.frames[-1]
            if ending == ON:
                ending = self._onwards(frame)
            else:
                ending = self._outwards(frame, ending)

    def _onwards(self, frame):
        """Goes on behind the statement at which the newest frame stands, which is done."""
        layout = self.layout_of(frame.edition)
        around = frame.path[:-1]
        beside = around + (frame.path[-1] + 1,)
        if beside in layout.statements:
            frame.path = beside
            return None
        if around in layout.bodies:
            return self._frame_ended(None)
        frame.path = around[:-1]
        return self._block_ended(frame, around[-1])

    def _block_ended(self, frame, number):
        """Goes on behind the block with this number of the statement at which the newest frame stands."""
        statement = self.statement()
        if statement[0] == "while":
            return None
        if statement[0] == "if":
            return ON
        if number == 2:
            return frame.kept.pop()
        return self._into_last(frame, ON)

    def _into_last(self, frame, ending):
        """Keeps an ending of block 0 or 1 of a "try" for its last block; without one, it goes on."""
        if not self._moved(frame, 2):
            return ending
        frame.kept.append(ending)
        return None

    def _outwards(self, frame, ending):
        """Carries a give, raise or leave out of the block in which the newest frame stands."""
        around = frame.path[:-1]
        if around in self.layout_of(frame.edition).bodies:
            return self._out_of_code(ending)
        number = around[-1]
        frame.path = around[:-1]
        statement = self.statement()
        if statement[0] == "while" and ending[0] == "leave":
            return ON
        if statement[0] != "try":
            return ending
        if number == 2:
            frame.kept.pop()
            return ending
        if number == 0 and ending[0] == "raise" and statement[2] is not None:
            frame.scope.names[statement[2]] = ending[1]
            return self.enter(frame, 1)
        return self._into_last(frame, ending)

    def _out_of_code(self, ending):
        """Takes the newest frame away with a give or raise that goes out of its code."""
        if ending[0] == "give":
            return self._frame_ended(ending[1])
        if len(self.frames) > 1:
            self.frames.pop()
            return ending
        self.finish(("failed", value_words(ending[1])))
        return None

    def _frame_ended(self, value):
        """Takes the newest frame away, which ends with this value, and hands the result to the caller."""
        if len(self.frames) == 1:
            self.finish(("ended",))
            return None
        frame = self.frames.pop()
        result = value
        if frame.makes is not None:
            result = frame.makes
        try:
            return handed(self, self.frames[-1], self.statement(), result)
        except Arises as e:
            return ("raise", e.worth)


def new_frame(function, path, parameters, values, makes):
    """The frame of a call, at the first statement of its block."""
    scope = Scope(function.scope)
    for name, value in zip(parameters, values):
        scope.names[name] = value
    return Frame(function.edition, path, scope, makes, function.home, first_of(parameters))


def first_of(parameters):
    """The first parameter, or None."""
    if len(parameters) == 0:
        return None
    return parameters[0]


def started(program):
    """The machine that stands ahead of the first statement of a program."""
    machine = Machine([program], [Frame(0, (0,), Scope(None), None, None, None)])
    if len(program) == 0:
        machine.finish(("ended",))
    return machine
