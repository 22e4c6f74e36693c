"""Reads a single line of a text: its statement with empty inner blocks, or what a line else, catch or last says."""

from everyanswer.errors import AnswerError
from everyanswer.forms import DEEPEST_EXPRESSION, DIGITS, LETTERS, SIGNS, is_name, is_phrase


class Unreadable(AnswerError):
    """A line that cannot stand where it does."""


class Line:
    """A line of a text, read from left to right."""

    def __init__(self, text):
        self.text = text
        self.at = 0

    def at_end(self):
        """Whether all of the line is read."""
        return self.at == len(self.text)

    def take(self, mark):
        """Whether this mark is next; if so, it is read."""
        if not self.text.startswith(mark, self.at):
            return False
        self.at += len(mark)
        return True

    def need(self, mark):
        """Reads this mark, which must be next."""
        if not self.take(mark):
            raise Unreadable()

    def run(self, signs):
        """Reads all that is next of these signs."""
        begin = self.at
        while self.at < len(self.text) and self.text[self.at] in signs:
            self.at += 1
        return self.text[begin:self.at]

    def name(self):
        """Reads a name."""
        word = self.run(LETTERS)
        if not is_name(word):
            raise Unreadable()
        return word

    def phrase(self):
        """Reads a phrase between its quotes."""
        self.need("'")
        end = self.text.find("'", self.at)
        found = self.text[self.at:end]
        if end < 0 or not is_phrase(found):
            raise Unreadable()
        self.at = end + 1
        return found

    def number(self):
        """Reads a number: no digit 0 goes ahead of another one."""
        digits = self.run(DIGITS)
        if len(digits) > 3 or len(digits) > 1 and digits[0] == "0":
            raise Unreadable()
        return ("number", int(digits))

    def whole(self):
        """Reads a whole expression."""
        e, _ = self.expression(DEEPEST_EXPRESSION)
        return e

    def expression(self, most):
        """Reads an expression of at most this height; returns it with its height, 1 for one without inner ones.

        The height is bounded on the way, so that no row of brackets, however long, leads far down.
        """
        if most == 0:
            raise Unreadable()
        e, height = self.beginning(most)
        while height <= most:
            if self.take("."):
                e = ("get", e, self.name())
                height += 1
            elif self.take("["):
                key, other = self.expression(most - 1)
                self.need("]")
                e = ("at", e, key)
                height = max(height, other) + 1
            else:
                return e, height
        raise Unreadable()

    def beginning(self, most):
        """Reads an expression up to where a "." or "[" behind it may take it as its first part."""
        if self.take("("):
            return self.bracketed(most)
        if self.take("["):
            return self.listing(most)
        if self.take("{"):
            return self.tabling(most)
        if self.at_end():
            raise Unreadable()
        sign = self.text[self.at]
        if sign == "'":
            return ("text", self.phrase()), 1
        if sign in DIGITS:
            return self.number(), 1
        return self.worded(most)

    def worded(self, most):
        """Reads an expression that begins with a letter."""
        word = self.run(LETTERS)
        if word == "none" or word == "yes" or word == "no":
            return (word,), 1
        if word == "above":
            self.need(" ")
            return ("above", self.name()), 1
        if word == "len" or word == "kind":
            self.need("(")
            e, height = self.expression(most - 1)
            self.need(")")
            return (word, e), height + 1
        if not is_name(word):
            raise Unreadable()
        return ("name", word), 1

    def bracketed(self, most):
        """Reads what follows an opening round bracket: a "not" or an "op"."""
        if self.take("not "):
            e, height = self.expression(most - 1)
            self.need(")")
            return ("not", e), height + 1
        e, height = self.expression(most - 1)
        self.need(" ")
        word = self.sign()
        self.need(" ")
        f, other = self.expression(most - 1)
        self.need(")")
        return ("op", word, e, f), max(height, other) + 1

    def sign(self):
        """Reads the word of an "op"."""
        for word in SIGNS:
            if self.take(word):
                return word
        raise Unreadable()

    def listing(self, most):
        """Reads what follows the opening bracket of a list."""
        items = []
        highest = 0
        more = not self.take("]")
        while more:
            e, height = self.expression(most - 1)
            items.append(e)
            highest = max(highest, height)
            more = self.take(", ")
            if not more:
                self.need("]")
        return ("list", items), highest + 1

    def tabling(self, most):
        """Reads what follows the opening bracket of a table."""
        rows = []
        highest = 0
        more = not self.take("}")
        while more:
            key, height = self.expression(most - 1)
            self.need(": ")
            worth, other = self.expression(most - 1)
            rows.append((key, worth))
            highest = max(highest, height, other)
            more = self.take(", ")
            if not more:
                self.need("}")
        return ("table", rows), highest + 1
