"""Sessions, in which a program is led step by step, and back."""

from everyanswer.courses import Course
from everyanswer.errors import NoAnswer, NoBack, NoExpression, NotAsked, Over, TooMany, Waiting
from everyanswer.exchange import exchanged
from everyanswer.forms import is_expression
from everyanswer.moments import Moment
from everyanswer.runs import MOST_BEGUN
from everyanswer.shapes import shape_of
from everyanswer.values import Arises, value_words
from everyanswer.workings import work


class Session:
    """A run of a program, which at first stands ahead of the first statement."""

    def __init__(self, program):
        self._course = Course(program)

    def _here(self):
        """The machine that stands where the run stands."""
        return self._course.machine()

    def _running(self):
        """The same for a run that is not over."""
        machine = self._here()
        if machine.over is not None:
            raise Over()
        return machine

    def step(self):
        """Begins the next statement and goes on until a statement is next; the words said."""
        if self._running().event() is not None:
            raise Waiting()
        return self._course.go_on(None)

    def answer(self, answer):
        """Answers the question and goes on in the same way; the words said."""
        if not isinstance(answer, bool):
            raise NoAnswer()
        if self._running().event() is None:
            raise NotAsked()
        return self._course.go_on(answer)

    def go(self):
        """Steps to the next question or the end; the words said."""
        said = []
        for _ in range(MOST_BEGUN):
            if self._here().event() is not None:
                return said
            said.extend(self._course.go_on(None))
        if self._here().event() is None:
            raise TooMany(MOST_BEGUN)
        return said

    def back(self):
        """Takes the last step, answer or exchange back."""
        if len(self._course.deeds) == 0:
            raise NoBack()
        self._course.back()

    def __len__(self):
        return len(self._course.deeds)

    def path(self):
        """The path of the statement at which it stands, or None if it is over."""
        machine = self._here()
        if machine.over is not None:
            return None
        return machine.frames[-1].path

    def codes(self):
        """The codes of its frames, the bottom one first."""
        machine = self._here()
        return [machine.layout_of(frame.edition).code_around(frame.path) for frame in machine.frames]

    def said(self):
        """All the words said so far."""
        return list(self._course.told)

    def shape(self):
        """The shape of the moment."""
        return shape_of(self._here().frames)

    def event(self):
        """The question at which it stands or the end; otherwise that it is ahead of a statement."""
        event = self._here().event()
        if event is None:
            return ("ahead",)
        return event

    def look(self, e):
        """Works an expression out in the newest frame: its words, or those of the error that arises."""
        frames = self._running().frames
        if not is_expression(e, 1):
            raise NoExpression()
        try:
            return ("value", value_words(work(e, frames[-1])))
        except Arises as arisen:
            return ("error", value_words(arisen.worth))

    def moment(self):
        """The moment, at a question or at the end."""
        machine = self._here()
        if machine.event() is None:
            raise NotAsked()
        return Moment(machine)

    def exchange(self, code, block):
        """Exchanges the block of a code, at a question."""
        self._course.exchange(exchanged(self.moment(), code, block))

    def tried(self, action):
        """What a function returns that is called with the session, which is then put back to what it was."""
        course = self._course
        self._course = course.twin()
        try:
            return action(self)
        finally:
            self._course = course

    def same_as(self, other):
        """Whether the two sessions have the same shape, event, editions and words said."""
        return self._all() == other._all()

    def _all(self):
        """All in which two sessions may differ."""
        return (self.shape(), self.event(), self._here().editions, self.said())
