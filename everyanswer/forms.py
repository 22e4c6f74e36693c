"""What names, phrases, expressions and statements are, each told by the kinds of its parts."""

LETTERS = "abcdefghijklmnopqrstuvwxyz"
DIGITS = "0123456789"
PHRASE_SIGNS = "abcdefghijklmnopqrstuvwxyz0123456789 "

WORDS = (
    "let", "set", "put", "add", "cut", "say", "ask", "if", "else", "while", "leave", "give", "raise", "try", "catch",
    "last", "def", "class", "over", "call", "none", "yes", "no", "and", "or", "not", "len", "kind", "above", "at",
)
SIGNS = ("+", "-", "*", "<", "==", "and", "or")
HOWS = ("let", "set", "drop", "give", "say")

DEEPEST_EXPRESSION = 5
MOST_ITEMS = 4
MOST_ARGUMENTS = 3
MOST_METHODS = 4

# The kinds of the parts that stand behind the first word.
EXPRESSIONS = {
    "none": (),
    "yes": (),
    "no": (),
    "number": ("number",),
    "text": ("phrase",),
    "name": ("name",),
    "op": ("sign", "expression", "expression"),
    "not": ("expression",),
    "len": ("expression",),
    "kind": ("expression",),
    "list": ("items",),
    "table": ("rows",),
    "get": ("expression", "name"),
    "at": ("expression", "expression"),
    "above": ("name",),
}
STATEMENTS = {
    "let": ("name", "expression"),
    "set": ("name", "expression"),
    "put": ("expression", "name", "expression"),
    "place": ("expression", "expression", "expression"),
    "add": ("expression", "expression"),
    "cut": ("expression",),
    "say": ("expression",),
    "ask": ("name", "phrase"),
    "call": ("how", "perhaps a name", "expression", "arguments"),
    "if": ("expression", "block", "block"),
    "while": ("expression", "block"),
    "leave": (),
    "give": ("expression",),
    "raise": ("expression",),
    "try": ("block", "perhaps a name", "block", "block"),
    "def": ("name", "parameters", "block"),
    "class": ("name", "perhaps an expression", "methods"),
}


def is_integer(thing):
    """Whether a thing is an integer; True and False are none."""
    return isinstance(thing, int) and not isinstance(thing, bool)


def is_integers(thing):
    """Whether a thing is a tuple of integers."""
    return isinstance(thing, tuple) and all([is_integer(part) for part in thing])


def is_name(thing):
    """Whether a thing is a name."""
    if not isinstance(thing, str) or not 1 <= len(thing) <= 8:
        return False
    return all([sign in LETTERS for sign in thing]) and thing not in WORDS


def is_phrase(thing):
    """Whether a thing is a phrase."""
    return isinstance(thing, str) and len(thing) <= 20 and all([sign in PHRASE_SIGNS for sign in thing])


def is_written_number(thing):
    """Whether a thing is a number that can stand in an expression."""
    return is_integer(thing) and 0 <= thing <= 999


def is_sign(thing):
    """Whether a thing is a word of "op"."""
    return thing in SIGNS


def is_how(thing):
    """Whether a thing says how a call hands its result on."""
    return thing in HOWS


def is_perhaps_name(thing):
    """Whether a thing is a name or None."""
    return thing is None or is_name(thing)


def is_block(thing):
    """Whether a thing is a list; its statements are looked at one by one, each with its own path."""
    return isinstance(thing, list)


def is_parameters(thing):
    """Whether a thing is a list of few names, none of them twice."""
    if not isinstance(thing, list) or len(thing) > MOST_ARGUMENTS:
        return False
    return all([is_name(part) for part in thing]) and len(set(thing)) == len(thing)


def is_method(thing):
    """Whether a thing is a method of a class, the statements of its block aside."""
    if not isinstance(thing, tuple) or len(thing) != 3:
        return False
    return is_name(thing[0]) and is_parameters(thing[1]) and len(thing[1]) > 0 and is_block(thing[2])


def is_methods(thing):
    """Whether a thing is the list of the methods of a class."""
    if not isinstance(thing, list) or len(thing) > MOST_METHODS:
        return False
    return all([is_method(part) for part in thing]) and len({part[0] for part in thing}) == len(thing)


def is_expressions(thing, most, depth):
    """Whether a thing is a list of at most so many expressions at this depth."""
    if not isinstance(thing, list) or len(thing) > most:
        return False
    return all([is_expression(part, depth) for part in thing])


def is_row(thing, depth):
    """Whether a thing is a row of a table with expressions at this depth."""
    return isinstance(thing, tuple) and len(thing) == 2 and all([is_expression(part, depth) for part in thing])


def is_rows(thing, depth):
    """Whether a thing is the list of the rows of a table."""
    return isinstance(thing, list) and len(thing) <= MOST_ITEMS and all([is_row(part, depth) for part in thing])


def is_part(kind, thing, depth):
    """Whether a thing is a part of this kind; expressions directly within are at this depth."""
    if kind == "expression":
        return is_expression(thing, depth)
    if kind == "perhaps an expression":
        return thing is None or is_expression(thing, depth)
    if kind == "items":
        return is_expressions(thing, MOST_ITEMS, depth)
    if kind == "arguments":
        return is_expressions(thing, MOST_ARGUMENTS, depth)
    if kind == "rows":
        return is_rows(thing, depth)
    check = PLAIN_PARTS[kind]
    return check(thing)


# The parts that contain no expressions.
PLAIN_PARTS = {
    "name": is_name,
    "phrase": is_phrase,
    "number": is_written_number,
    "sign": is_sign,
    "how": is_how,
    "perhaps a name": is_perhaps_name,
    "block": is_block,
    "parameters": is_parameters,
    "methods": is_methods,
}


def first_word(thing):
    """The string with which a tuple begins, or the empty string."""
    if isinstance(thing, tuple) and len(thing) > 0 and isinstance(thing[0], str):
        return thing[0]
    return ""


def has_parts(thing, kinds, depth):
    """Whether the parts of a tuple behind its first word are of these kinds, or kinds is None."""
    if kinds is None or len(thing) != len(kinds) + 1:
        return False
    return all([is_part(kind, part, depth) for kind, part in zip(kinds, thing[1:])])


def is_expression(thing, depth):
    """Whether a thing is an expression that may stand at this depth."""
    if depth > DEEPEST_EXPRESSION:
        return False
    return has_parts(thing, EXPRESSIONS.get(first_word(thing)), depth + 1)


def is_statement(thing):
    """Whether a thing is a statement, the statements of its inner blocks aside."""
    word = first_word(thing)
    if not has_parts(thing, STATEMENTS.get(word), 1):
        return False
    if word == "call":
        return (thing[2] is not None) == (thing[1] in ("let", "set"))
    if word == "try" and thing[2] is None:
        return len(thing[3]) == 0 and len(thing[4]) > 0
    return True


def expressions_of(statement):
    """The whole expressions that stand directly in a statement."""
    out = []
    for kind, part in zip(STATEMENTS[statement[0]], statement[1:]):
        if kind == "arguments":
            out.extend(part)
        elif kind == "expression" or kind == "perhaps an expression" and part is not None:
            out.append(part)
    return out


def blocks_of(statement):
    """The inner blocks of a statement in the order of their numbers, not copied."""
    out = []
    for kind, part in zip(STATEMENTS[statement[0]], statement[1:]):
        if kind == "block":
            out.append(part)
        elif kind == "methods":
            out.extend([method[2] for method in part])
    return out


def inner_block(top, at):
    """The block, not copied, with this path within a top block: that of its statement and its number, or ()."""
    block = top
    for k in range(0, len(at), 2):
        block = blocks_of(block[at[k]])[at[k + 1]]
    return block


def has_above(thing):
    """Whether an expression, or a part of one, contains an "above"."""
    if first_word(thing) == "above":
        return True
    return isinstance(thing, (list, tuple)) and any([has_above(part) for part in thing])


def fresh(thing):
    """A copy in which each list is a new one."""
    if isinstance(thing, list):
        return [fresh(part) for part in thing]
    if isinstance(thing, tuple):
        return tuple([fresh(part) for part in thing])
    return thing
