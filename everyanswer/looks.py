"""Looks at the things of a moment."""

from everyanswer.errors import NoName
from everyanswer.forms import is_name
from everyanswer.values import is_plain, scope_with


def reached(moment):
    """How many frames and how many things the shape of a moment has."""
    frames, things = moment.shape()
    return (len(frames), len(things))


def sharing(moment, name, other):
    """Whether two names, looked up from the newest frame, have the same thing as their value."""
    for word in (name, other):
        if not is_name(word):
            raise NoName()
    if not moment.asks():
        return False
    scope = moment.machine().frames[-1].scope
    thing = _thing(scope, name)
    return thing is not None and thing == _thing(scope, other)


def _thing(scope, name):
    """The thing that a name has as its value, looked up from a scope; None if that is unset or no thing."""
    holder = scope_with(scope, name)
    if holder is None or is_plain(holder.names[name]):
        return None
    return holder.names[name]
