"""Blocks with other blocks or statements in them, made anew from their tuples."""

PLACES = {"if": (2, 3), "while": (2,), "try": (1, 3, 4), "def": (3,)}


def body_of(block, code):
    """The block within a top block that has this path: that of its statement and its number."""
    for at in range(0, len(code), 2):
        statement = block[code[at]]
        if statement[0] == "class":
            block = statement[3][code[at + 1]][2]
        else:
            block = statement[PLACES[statement[0]][code[at + 1]]]
    return block


def with_body(block, code, body):
    """A top block with this one in the place of the one that has this path."""
    if code == ():
        return body
    index, number = code[:2]
    parts = list(block[index])
    if parts[0] == "class":
        parts[3] = list(parts[3])
        name, params, inner = parts[3][number]
        parts[3][number] = (name, params, with_body(inner, code[2:], body))
    else:
        at = PLACES[parts[0]][number]
        parts[at] = with_body(parts[at], code[2:], body)
    return block[:index] + [tuple(parts)] + block[index + 1:]


def replaced(block, path, statements):
    """A top block with these statements in the place of the one at this path."""
    body = body_of(block, path[:-1])
    return with_body(block, path[:-1], body[:path[-1]] + statements + body[path[-1] + 1:])
