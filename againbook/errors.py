"""The refusals, each right under BookError, so that one handler can take any of them."""


class BookError(ValueError):
    pass


class NoText(BookError):
    def __init__(self, line):
        self.line = line


class Twice(BookError):
    def __init__(self, name):
        self.name = name


class NoName(BookError):
    def __init__(self, name):
        self.name = name


class NoCount(BookError):
    def __init__(self, name):
        self.name = name


class TooLong(BookError):
    pass


class TooDeep(BookError):
    pass


class NoStep(BookError):
    pass


class NoRow(BookError):
    pass
