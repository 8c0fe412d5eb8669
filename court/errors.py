"""The refusals of the court, all under CourtError."""


class CourtError(ValueError):
    pass


class NoText(CourtError):
    def __init__(self, row):
        self.row = row


class TooMany(CourtError):
    def __init__(self, most):
        self.most = most


class NoPlan(CourtError):
    def __init__(self, name):
        self.name = name


class NoName(CourtError):
    def __init__(self, name):
        self.name = name


class NoRow(CourtError):
    pass
