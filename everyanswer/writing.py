"""The lines of the statements of a program."""


def expression_text(e):
    """The text of an expression."""
    word = e[0]
    if word == "none" or word == "yes" or word == "no":
        return word
    if word == "number":
        return str(e[1])
    if word == "text":
        return f"'{e[1]}'"
    if word == "name":
        return e[1]
    if word == "op":
        return f"({expression_text(e[2])} {e[1]} {expression_text(e[3])})"
    if word == "not":
        return f"(not {expression_text(e[1])})"
    if word == "len" or word == "kind":
        return f"{word}({expression_text(e[1])})"
    if word == "list":
        return f"[{listed(e[1])}]"
    if word == "table":
        rows = [f"{expression_text(key)}: {expression_text(worth)}" for key, worth in e[1]]
        return "{" + ", ".join(rows) + "}"
    if word == "get":
        return f"{expression_text(e[1])}.{e[2]}"
    if word == "at":
        return f"{expression_text(e[1])}[{expression_text(e[2])}]"
    return f"above {e[1]}"


def listed(expressions):
    """The texts of several expressions, parted by commas."""
    return ", ".join([expression_text(e) for e in expressions])


def call_text(statement):
    """The line of a call."""
    _, how, name, callee, arguments = statement
    text = f"call {expression_text(callee)}({listed(arguments)})"
    if how == "drop":
        return text
    if name is None:
        return f"{how} {text}"
    return f"{how} {name} = {text}"


def head(statement):
    """The first line of a statement, without spaces ahead."""
    word = statement[0]
    if word == "let" or word == "set":
        return f"{word} {statement[1]} = {expression_text(statement[2])}"
    if word == "put":
        return f"put {expression_text(statement[1])}.{statement[2]} = {expression_text(statement[3])}"
    if word == "place":
        listing, key, worth = [expression_text(e) for e in statement[1:]]
        return f"put {listing}[{key}] = {worth}"
    if word == "add":
        return f"add {listed(statement[1:])}"
    if word == "ask":
        return f"ask {statement[1]} '{statement[2]}'"
    if word == "call":
        return call_text(statement)
    if word == "leave" or word == "try":
        return word
    if word == "def":
        return routine_head(statement[1], statement[2])
    if word == "class":
        return class_head(statement)
    return f"{word} {expression_text(statement[1])}"


def routine_head(name, parameters):
    """The first line of a function or a method."""
    return f"def {name}({', '.join(parameters)})"


def class_head(statement):
    """The first line of a class."""
    if statement[2] is None:
        return f"class {statement[1]}"
    return f"class {statement[1]} over {expression_text(statement[2])}"


def block_lines(block, margin):
    """The lines of a block whose statements begin behind this margin."""
    out = []
    for statement in block:
        out.append(margin + head(statement))
        out.extend(inner_lines(statement, margin))
    return out


def inner_lines(statement, margin):
    """The lines of a statement behind its first one."""
    word = statement[0]
    inner = margin + "  "
    if word == "while":
        return block_lines(statement[2], inner)
    if word == "def":
        return block_lines(statement[3], inner)
    if word == "if":
        return block_lines(statement[2], inner) + part_lines("else", statement[3], margin)
    if word == "try":
        return try_lines(statement, margin)
    out = []
    if word == "class":
        for name, parameters, body in statement[3]:
            out.append(inner + routine_head(name, parameters))
            out.extend(block_lines(body, inner + "  "))
    return out


def part_lines(word, block, margin):
    """A line with this word and the lines of its block; nothing for an empty block."""
    if len(block) == 0:
        return []
    return [margin + word] + block_lines(block, margin + "  ")


def try_lines(statement, margin):
    """The lines of a "try" behind its first one."""
    _, block, name, caught, last = statement
    out = block_lines(block, margin + "  ")
    if name is not None:
        out.append(f"{margin}catch {name}")
        out.extend(block_lines(caught, margin + "  "))
    return out + part_lines("last", last, margin)
