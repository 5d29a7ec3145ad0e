"""The refusals, one class for each."""


class LieError(ValueError):
    pass


class NoLies(LieError):
    pass


class NoMarks(LieError):
    pass


class NoQuestion(LieError):
    pass


class NoMany(LieError):
    pass


class NoNote(LieError):
    pass
