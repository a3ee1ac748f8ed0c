"""The refusals: one class for each, all of them under BitsError."""


class BitsError(ValueError):
    pass


class NoLine(BitsError):
    def __init__(self, row):
        self.row = row


class NoWidth(BitsError):
    def __init__(self, row):
        self.row = row


class NoRow(BitsError):
    def __init__(self, row):
        self.row = row


class NoFit(BitsError):
    def __init__(self, row):
        self.row = row


class NoNumber(BitsError):
    def __init__(self, row):
        self.row = row


class TooMany(BitsError):
    pass
