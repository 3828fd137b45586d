"""The refusals of the program: errors with fields, all under one base."""


class SameError(ValueError):
    """Any refusal."""


class NoText(SameError):
    """A text that is none: the first line that is not as told."""

    def __init__(self, line):
        self.line = line


class NoKind(SameError):
    """A tree that is not right: a line of its text, and a word there."""

    def __init__(self, line, word):
        self.line = line
        self.word = word


class NoMiddle(SameError):
    """A middle that is not right: -1 stands where a field tells nothing."""

    def __init__(self, function, block, row):
        self.function = function
        self.block = block
        self.row = row


class NoPaper(SameError):
    """A paper that is not let by: where it breaks, and how."""

    def __init__(self, function, block, row, word):
        self.function = function
        self.block = block
        self.row = row
        self.word = word


class NoCode(SameError):
    """Code that is not right: -1 stands where a field tells nothing."""

    def __init__(self, function, step):
        self.function = function
        self.step = step
