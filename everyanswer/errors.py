"""The errors that the functions and classes of the package raise, each one directly under AnswerError."""


class AnswerError(ValueError):
    """What every error of the package is."""


class NoPath(AnswerError):
    """A value that is not the path of a statement of the program."""


class NoCode(AnswerError):
    """A value that is not a code of the program."""


class NoAnswers(AnswerError):
    """A value that is not a list of answers."""


class NoAnswer(AnswerError):
    """A value that is not an answer."""


class NotAsked(AnswerError):
    """No question is asked at this place of the run."""


class NoName(AnswerError):
    """A value that is not a name, or not one that can stand there."""


class NoMost(AnswerError):
    """A value that is no bound for the moments of a graph."""


class NoPlace(AnswerError):
    """A statement that cannot be rewritten in this way."""


class NoExpression(AnswerError):
    """A value that is not an expression."""


class Waiting(AnswerError):
    """The run waits for an answer."""


class Over(AnswerError):
    """The run has ended or failed."""


class NoBack(AnswerError):
    """There is nothing that could be taken back."""


class NoProgram(AnswerError):
    """A value that is no program: path is that of its first faulty statement."""

    def __init__(self, path):
        self.path = path


class NoText(AnswerError):
    """A value that is not the text of a program: line is the first with which no such text begins."""

    def __init__(self, line):
        self.line = line


class TooMany(AnswerError):
    """More statements or moments than a call goes through: many is the number that is exceeded."""

    def __init__(self, many):
        self.many = many
