"""The graph of a moment: all moments that can be come to from it by answers."""

from everyanswer.errors import NoMost, TooMany
from everyanswer.forms import is_integer
from everyanswer.moments import led_on

MOST_MOMENTS = 200
GREATEST_MOST = 1000


def graph(moment, *, most=200):
    """The moments that can be come to, each with what is said and the index of the moment behind no and behind yes."""
    if not is_integer(most) or not 1 <= most <= GREATEST_MOST:
        raise NoMost()
    return [(node, [(said, goal) for said, goal, _ in behind]) for node, behind in explored(moment, most)]


class Growing:
    """A graph that is made as far as it is asked for; its runs are led with a watch or without.

    moments are those that have been come to, in the order in which they were first met.
    """

    def __init__(self, moment, most, watch=None):
        self.moments = [moment]
        self._most = most
        self._watch = watch
        self._indexes = {moment.mark(): 0}
        self._runs = {}

    def behind(self, index):
        """For no and for yes, unless the moment is at no question, the run behind it.

        That is what is said, the index of the moment there, and whether the watch has seen anything.
        """
        if index not in self._runs:
            answers = (False, True) if self.moments[index].asks() else ()
            self._runs[index] = [self._run(index, answer) for answer in answers]
        return self._runs[index]

    def _run(self, index, answer):
        said, goal = led_on(self.moments[index], answer, self._watch)
        # Answers change no editions, so the mark alone tells these moments apart.
        mark = goal.mark()
        if mark not in self._indexes:
            self._indexes[mark] = len(self.moments)
            self.moments.append(goal)
        if len(self.moments) > self._most:
            raise TooMany(self._most)
        return (said, self._indexes[mark], self._watch is not None and self._watch.take())


def explored(moment, most, watch=None):
    """The rows of the graph of a moment, with a watch or without: each moment with the runs behind it."""
    return _rows(Growing(moment, most, watch))


def whole(moment, most):
    """The graph of a moment, made to its end."""
    growing = Growing(moment, most)
    _rows(growing)
    return growing


def _rows(growing):
    """Makes a graph to its end; its moments with the runs behind them."""
    rows = []
    while len(rows) < len(growing.moments):
        index = len(rows)
        rows.append((growing.moments[index], growing.behind(index)))
    return rows
