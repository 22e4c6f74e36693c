"""The graph of a moment: all moments that can be come to from it by answers."""

from everyanswer.errors import NoMost, TooMany
from everyanswer.forms import is_integer
from everyanswer.moments import led_on

MOST_MOMENTS = 200
GREATEST_MOST = 1000


def graph(moment, *, most=200):
    """The moments that can be come to, each with what is said and the index of the moment behind no and behind yes."""
    if not is_integer(most) or not 1 <= most <= GREATEST_MOST:
        raise NoMost()
    return [(node, [(said, goal) for said, goal, _ in behind]) for node, behind in explored(moment, most)]


def explored(moment, most, watch=None):
    """The graph of a moment, with a watch or without.

    Behind no and behind yes stand what is said, the index of the moment there, and whether the watch has seen anything.
    """
    indexes = {moment.mark(): 0}
    found = [moment]
    rows = []
    while len(rows) < len(found):
        node = found[len(rows)]
        behind = []
        answers = (False, True) if node.asks() else ()
        for answer in answers:
            said, goal = led_on(node, answer, watch)
            # Answers change no editions, so the mark alone tells these moments apart.
            mark = goal.mark()
            if mark not in indexes:
                indexes[mark] = len(found)
                found.append(goal)
            if len(found) > most:
                raise TooMany(most)
            behind.append((said, indexes[mark], watch is not None and watch.take()))
        rows.append((node, behind))
    return rows
