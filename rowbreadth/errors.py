"""The classes of all refusals."""


class RowError(ValueError):
    pass


class ByNought(RowError):
    pass


class Outside(RowError):
    pass


class LineError(RowError):
    def __init__(self, line):
        RowError.__init__(self, f"line {line}")
        self.line = line


class BadText(LineError):
    pass


class NoName(LineError):
    pass


class Twice(LineError):
    pass


class TooMany(LineError):
    pass


class TooLong(LineError):
    pass


class TooDeep(LineError):
    pass


class Uneven(LineError):
    pass


class Crossed(LineError):
    pass
