"""Names of a program that become other ones."""

from everyanswer.forms import EXPRESSIONS, STATEMENTS


class Renaming:
    """Puts one name in the place of another one, wherever a name stands; met holds all the names that stood there."""

    def __init__(self, name, other):
        self._name = name
        self._other = other
        self.met = {}

    def block(self, block):
        """The block with the other name."""
        return [self._statement(statement) for statement in block]

    def _word(self, word):
        self.met[word] = True
        return self._other if word == self._name else word

    def _statement(self, statement):
        kinds = STATEMENTS[statement[0]]
        return statement[:1] + tuple([self._part(kind, part) for kind, part in zip(kinds, statement[1:])])

    def _expression(self, e):
        kinds = EXPRESSIONS[e[0]]
        return e[:1] + tuple([self._part(kind, part) for kind, part in zip(kinds, e[1:])])

    def _part(self, kind, part):
        """A part of this kind with the other name; parts without names stay."""
        if part is None:
            return None
        if kind == "name" or kind == "perhaps a name":
            return self._word(part)
        if kind == "parameters":
            return [self._word(word) for word in part]
        if kind == "expression" or kind == "perhaps an expression":
            return self._expression(part)
        if kind == "items" or kind == "arguments":
            return [self._expression(e) for e in part]
        if kind == "rows":
            return [(self._expression(key), self._expression(worth)) for key, worth in part]
        if kind == "block":
            return self.block(part)
        if kind == "methods":
            return [self._method(method) for method in part]
        return part

    def _method(self, method):
        word, parameters, block = method
        return (self._word(word), [self._word(parameter) for parameter in parameters], self.block(block))
