"""The moments at which runs ask, or are over."""

from everyanswer.errors import NoAnswer, NoName, NotAsked
from everyanswer.forms import is_name
from everyanswer.machines import started
from everyanswer.runs import lead
from everyanswer.shapes import machine_at, shape_of
from everyanswer.values import scope_with, value_words


class Moment:
    """A moment of a run that asks, has ended or failed, or goes on for ever; it does not change.

    It is made of a machine that has been led there. asks, mark and machine are for the package alone.
    """

    def __init__(self, machine):
        self._editions = list(machine.editions)
        self._shape = shape_of(machine.frames)
        self._event = firm(machine.event())

    def event(self):
        """The question, or the end."""
        if self._event[0] == "ever":
            return ("ever", list(self._event[1]))
        return self._event

    def answered(self, answer):
        """What the run that goes on with this answer says, and the moment to which it comes."""
        if not isinstance(answer, bool):
            raise NoAnswer()
        if not self.asks():
            raise NotAsked()
        return led_on(self, answer)

    def shape(self):
        """All on which the further run hangs, but for the editions."""
        return self._shape

    def programs(self):
        """The editions, the program with which the run began first."""
        return list(self._editions)

    def value(self, name):
        """The words of a name, looked up from the newest frame; None if it is unset or there are no frames."""
        if not is_name(name):
            raise NoName()
        if not self.asks():
            return None
        holder = scope_with(self.machine().frames[-1].scope, name)
        if holder is None:
            return None
        return value_words(holder.names[name])

    def __eq__(self, other):
        if not isinstance(other, Moment) or self._shape != other._shape:
            return False
        return self._event == other._event and self._editions == other._editions

    def asks(self):
        """Whether it is at a question."""
        return self._event[0] == "ask"

    def mark(self):
        """Shape and event in one tuple, which tells moments of the same editions apart."""
        return self._shape + self._event

    def machine(self):
        """A machine of its own that stands at this question."""
        return machine_at(self._editions, self._shape)


def firm(event):
    """An event with a tuple in the place of its list."""
    if event[0] == "ever":
        return ("ever", tuple(event[1]))
    return event


def start(program):
    """What a run of a program says ahead of its first question or its end, and the moment there."""
    return led_from(program)


def led_from(program, watch=None):
    """The same, with a watch that looks where statements are begun."""
    machine = started(program)
    said, _ = lead(machine, watch)
    return said, Moment(machine)


def led_on(moment, answer, watch=None):
    """The same for the run that goes on from a question with an answer."""
    machine = moment.machine()
    machine.answer(answer)
    said, _ = lead(machine, watch)
    return said, Moment(machine)
