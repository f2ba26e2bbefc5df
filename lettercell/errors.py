"""The refusals, each of a class of its own, with its fields as values."""


class CellarError(ValueError):
    pass


class BadWord(CellarError):
    pass


class NoSuch(CellarError):
    def __init__(self, name):
        self.name = name


class Doubled(CellarError):
    def __init__(self, name):
        self.name = name


class Broken(CellarError):
    def __init__(self, line):
        self.line = line


class SenderError(CellarError):
    pass


class Fenced(SenderError):
    def __init__(self, life):
        self.life = life


class Gap(SenderError):
    def __init__(self, due):
        self.due = due


class TooOld(SenderError):
    def __init__(self, number):
        self.number = number


class LoanError(CellarError):
    pass


class Late(LoanError):
    def __init__(self, row, loan):
        self.row = row
        self.loan = loan


class NotYours(LoanError):
    def __init__(self, row, owner):
        self.row = row
        self.owner = owner


class Twice(LoanError):
    def __init__(self, row, loan):
        self.row = row
        self.loan = loan


class DeedError(CellarError):
    pass


class Busy(DeedError):
    def __init__(self, deed):
        self.deed = deed


class NoDeed(DeedError):
    def __init__(self, name):
        self.name = name


class RowError(CellarError):
    pass


class WrongKind(RowError):
    def __init__(self, row):
        self.row = row


class Needed(RowError):
    def __init__(self, row, place):
        self.row = row
        self.place = place


class Gone(RowError):
    def __init__(self, row, place):
        self.row = row
        self.place = place


class Beyond(RowError):
    def __init__(self, row, place):
        self.row = row
        self.place = place
