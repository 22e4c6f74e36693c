"""Works expressions out to values, in a frame."""

from everyanswer.values import (
    Arises, Bound, Family, Instance, Listing, Table, are_same, cell_index, is_number, is_truth, kind_word, looked_up,
    method_of, put_row, row_index,
)

GREATEST_NUMBER = 1000000000
LONGEST_TEXT = 60


def work(e, frame):
    """The value of an expression in a frame; raises Arises with the error that arises in it."""
    working = WORKINGS[e[0]]
    return working(e, frame)


def _none(e, frame):
    return None


def _yes(e, frame):
    return True


def _no(e, frame):
    return False


def _itself(e, frame):
    return e[1]


def _name(e, frame):
    return looked_up(frame.scope, e[1])


def _op(e, frame):
    word = e[1]
    one = work(e[2], frame)
    if word == "and" or word == "or":
        return _joined(word, one, e[3], frame)
    other = work(e[3], frame)
    if word == "==":
        return are_same(one, other)
    if is_number(one) and is_number(other):
        return _of_numbers(word, one, other)
    if isinstance(one, str) and isinstance(other, str):
        return _of_texts(word, one, other)
    raise Arises("kind")


def _joined(word, one, second, frame):
    """The value of "and" or "or"; the second part is worked out only where the first one does not decide."""
    if not is_truth(one):
        raise Arises("kind")
    if one == (word == "or"):
        return one
    other = work(second, frame)
    if not is_truth(other):
        raise Arises("kind")
    return other


def _of_numbers(word, one, other):
    if word == "<":
        return one < other
    if word == "+":
        found = one + other
    elif word == "-":
        found = one - other
    else:
        found = one * other
    if found > GREATEST_NUMBER or found < -GREATEST_NUMBER:
        raise Arises("great")
    return found


def _of_texts(word, one, other):
    if word == "<":
        return one < other
    if word != "+":
        raise Arises("kind")
    if len(one) + len(other) > LONGEST_TEXT:
        raise Arises("great")
    return one + other


def _not(e, frame):
    value = work(e[1], frame)
    if not is_truth(value):
        raise Arises("kind")
    return not value


def _len(e, frame):
    value = work(e[1], frame)
    if isinstance(value, Listing):
        return len(value.cells)
    if isinstance(value, Table):
        return len(value.rows)
    if isinstance(value, str):
        return len(value)
    raise Arises("kind")


def _kind(e, frame):
    return kind_word(work(e[1], frame))


def _list(e, frame):
    return Listing([work(item, frame) for item in e[1]])


def _table(e, frame):
    table = Table()
    for key, worth in e[1]:
        found = work(key, frame)
        put_row(table, found, work(worth, frame))
    return table


def _get(e, frame):
    value = work(e[1], frame)
    if isinstance(value, Instance):
        if e[2] in value.fields:
            return value.fields[e[2]]
        return _bound(value, value.home, e[2])
    if not isinstance(value, Family):
        raise Arises("kind")
    method = method_of(value, e[2])
    if method is None:
        raise Arises("field")
    return method


def _bound(owner, family, name):
    """The method of a class, which may be None, bound to an object."""
    method = method_of(family, name)
    if method is None:
        raise Arises("field")
    return Bound(owner, method)


def _at(e, frame):
    value = work(e[1], frame)
    key = work(e[2], frame)
    if isinstance(value, Listing):
        return value.cells[cell_index(len(value.cells), key)]
    if isinstance(value, str):
        return value[cell_index(len(value), key)]
    if not isinstance(value, Table):
        raise Arises("kind")
    index = row_index(value, key)
    if index is None:
        raise Arises("key")
    return value.rows[index][1]


def _above(e, frame):
    if frame.home is None:
        # No program brings this about; an expression that a session looks at may.
        raise Arises("field")
    owner = looked_up(frame.scope, frame.first)
    if not isinstance(owner, Instance):
        raise Arises("kind")
    return _bound(owner, frame.home.over, e[1])


WORKINGS = {
    "none": _none,
    "yes": _yes,
    "no": _no,
    "number": _itself,
    "text": _itself,
    "name": _name,
    "op": _op,
    "not": _not,
    "len": _len,
    "kind": _kind,
    "list": _list,
    "table": _table,
    "get": _get,
    "at": _at,
    "above": _above,
}
