"""Runs with all that was done in them, so that it can be taken back."""

from everyanswer.machines import started
from everyanswer.shapes import machine_at, shape_of

# Between two marks lie at least so many deeds, and as many as the moment at the first one has things: so going on from
# a mark to a later place takes about as long as making the machine that stands at the mark, and all marks together are
# no larger than what was done.
LEAST_BETWEEN = 50


class Course:
    """A run with its steps, answers and exchanges, which are its deeds, and all the words that it has said.

    deeds has a row for each: the answer, or None, and how many words had been said ahead of it. A mark is a place to
    which the run can be put back: behind how many deeds it lies, and the editions and the shape of the moment there.
    """

    def __init__(self, program):
        self._program = program
        self._machine = None
        self._marks = []
        self.deeds = []
        self.told = []

    def twin(self):
        """A course of its own that stands at the same place."""
        twin = Course(self._program)
        twin._marks = list(self._marks)
        twin.deeds = list(self.deeds)
        twin.told = list(self.told)
        return twin

    def machine(self):
        """The machine that stands at this place."""
        if self._machine is None:
            self._machine = self._led()
        return self._machine

    def _led(self):
        """A machine that is led on from the last mark; exchanges are not led over, as each has a mark behind it."""
        if len(self._marks) == 0:
            many = 0
            machine = started(self._program)
        else:
            many, editions, shape = self._marks[-1]
            machine = machine_at(editions, shape)
        for answer, _ in self.deeds[many:]:
            _lead(machine, answer)
        machine.take_told()
        return machine

    def go_on(self, answer):
        """Answers the question, or with None begins the statement, at which the run stands; what is said."""
        machine = self.machine()
        self._mark_at_times(machine)
        self.deeds.append((answer, len(self.told)))
        _lead(machine, answer)
        said = machine.take_told()
        self.told.extend(said)
        return said

    def _mark_at_times(self, machine):
        """Sets a mark if it is time for one."""
        many = 0
        between = LEAST_BETWEEN
        if len(self._marks) > 0:
            many, _, (_, things) = self._marks[-1]
            between = max(between, len(things))
        if len(self.deeds) - many >= between:
            self._marks.append((len(self.deeds), machine.editions, shape_of(machine.frames)))

    def exchange(self, moment):
        """Goes on from a moment that comes from the one at which the run stands by an exchange."""
        self.deeds.append((None, len(self.told)))
        self._marks.append((len(self.deeds), moment.programs(), moment.shape()))
        self._machine = None

    def back(self):
        """Takes the last deed back."""
        _, many = self.deeds.pop()
        del self.told[many:]
        while len(self._marks) > 0 and self._marks[-1][0] > len(self.deeds):
            self._marks.pop()
        self._machine = None


def _lead(machine, answer):
    """Answers the question, or with None begins the statement, at which a machine stands."""
    if answer is None:
        machine.step()
    else:
        machine.answer(answer)
