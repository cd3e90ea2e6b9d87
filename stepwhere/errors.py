"""The errors of the package."""


class StepwhereError(ValueError):
    """Any argument that is refused; made with a text."""


class BadBook(StepwhereError):
    """Of what is not a book; place leads to its first fault."""

    def __init__(self, place):
        self.place = place


class BadProgram(StepwhereError):
    """Of what is not a program of a book; place is the way to its first fault."""

    def __init__(self, place):
        self.place = place


class BadText(StepwhereError):
    """Of what is not the text of a book or a program; place is the number of the first wrong word."""

    def __init__(self, place):
        self.place = place


class TooGreat(StepwhereError):
    """Of a book or a piece that is beyond the bounds of the questions."""

    def __init__(self, place):
        self.place = place


class BadQuestion(StepwhereError):
    """Of a question that cannot be asked of this book; made with a text."""


class Fails(RuntimeError):
    """What a statement or a step fails with: a word."""

    def __init__(self, word):
        self.word = word


class Missing(KeyError):
    """Of a name that no piece of a shelf has."""

    def __init__(self, name):
        self.name = name
