"""The values of a run, and what holds for them alone.

None, True and False, integers and strings stand for none, truths, numbers and texts. The things have classes of their
own, which are compared as the things that they are, never by what they hold.
"""

from everyanswer.errors import AnswerError
from everyanswer.forms import is_integer

MOST_ROWS = 12


class Arises(AnswerError):
    """An error of the program that is run, on its way to the statement at which it arises: worth is its value."""

    def __init__(self, worth):
        self.worth = worth


class Scope:
    """Names with their values, and the scope around them or None."""

    def __init__(self, around):
        self.around = around
        self.names = {}


class Listing:
    """A list."""

    def __init__(self, cells):
        self.cells = cells


class Table:
    """A table: rows of key and value."""

    def __init__(self):
        self.rows = []


class Function:
    """A function: the edition and the code of its block, the scope around it, its class or None."""

    def __init__(self, edition, code, scope, home):
        self.edition = edition
        self.code = code
        self.scope = scope
        self.home = home


class Bound:
    """A function that is bound to an object."""

    def __init__(self, owner, function):
        self.owner = owner
        self.function = function


class Family:
    """A class with its own methods, and the class over it or None."""

    def __init__(self, over):
        self.over = over
        self.methods = {}


class Instance:
    """An object of a class."""

    def __init__(self, home):
        self.home = home
        self.fields = {}


def is_truth(value):
    """Whether a value is yes or no."""
    return isinstance(value, bool)


def is_number(value):
    """Whether a value is a number."""
    return is_integer(value)


def is_plain(value):
    """Whether a value is none, a truth, a number or a text, as the keys of tables are."""
    return value is None or isinstance(value, (bool, int, str))


def are_same(one, other):
    """Whether two values are the same; a truth is never the same as a number."""
    return is_truth(one) == is_truth(other) and one == other


def scope_with(scope, name):
    """The nearest scope, from this one outwards, that holds a name, or None."""
    while scope is not None and name not in scope.names:
        scope = scope.around
    return scope


def looked_up(scope, name):
    """The value of a name, looked up from a scope."""
    holder = scope_with(scope, name)
    if holder is None:
        raise Arises("unset")
    return holder.names[name]


def replace_name(scope, name, value):
    """Replaces the value of a name in the nearest scope that holds it."""
    holder = scope_with(scope, name)
    if holder is None:
        raise Arises("unset")
    holder.names[name] = value


def method_of(family, name):
    """The method of a class, its own or one of the classes over it, or None."""
    while family is not None:
        if name in family.methods:
            return family.methods[name]
        family = family.over
    return None


def cell_index(many, key):
    """The key as the index of an item among so many."""
    if not is_number(key):
        raise Arises("kind")
    if key < 0 or key >= many:
        raise Arises("range")
    return key


def row_index(table, key):
    """The index of the row of a table with this key, or None."""
    if not is_plain(key):
        raise Arises("kind")
    for index, (known, _) in enumerate(table.rows):
        if are_same(known, key):
            return index
    return None


def put_row(table, key, value):
    """Puts a value into the row of a table with this key, or into a new one behind all others."""
    index = row_index(table, key)
    if index is not None:
        table.rows[index] = (key, value)
    elif len(table.rows) == MOST_ROWS:
        raise Arises("great")
    else:
        table.rows.append((key, value))


def kind_word(value):
    """The text that tells the kind of a value."""
    if value is None:
        return "none"
    if is_truth(value):
        return "truth"
    if is_number(value):
        return "number"
    if isinstance(value, str):
        return "text"
    if isinstance(value, Listing):
        return "list"
    if isinstance(value, Table):
        return "table"
    if isinstance(value, (Function, Bound)):
        return "function"
    if isinstance(value, Family):
        return "class"
    return "object"


def value_words(value):
    """The words of a value."""
    if isinstance(value, str):
        return value
    if isinstance(value, Listing):
        return "[" + ", ".join([inner_words(cell) for cell in value.cells]) + "]"
    if isinstance(value, Table):
        rows = [f"{inner_words(key)}: {inner_words(worth)}" for key, worth in value.rows]
        return "{" + ", ".join(rows) + "}"
    return inner_words(value)


def inner_words(value):
    """The words of a value within a list or a table; lists and tables are not gone into."""
    if value is None:
        return "none"
    if is_truth(value):
        return "yes" if value else "no"
    if is_number(value):
        return str(value)
    if isinstance(value, str):
        return f"'{value}'"
    if isinstance(value, Listing):
        return "[..]" if len(value.cells) > 0 else "[]"
    if isinstance(value, Table):
        return "{..}" if len(value.rows) > 0 else "{}"
    return f"<{kind_word(value)}>"
