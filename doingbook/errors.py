"""The refusals: each a class of its own right under DoingError, none under another one."""


class DoingError(ValueError):
    pass


class NoFraction(DoingError):
    pass


class NoCount(DoingError):
    pass


class NoTie(DoingError):
    pass


class NoBow(DoingError):
    pass


class NoName(DoingError):
    pass


class NoSets(DoingError):
    pass


class NoWorld(DoingError):
    pass


class NoValue(DoingError):
    pass


class NoShare(DoingError):
    pass


class NoRoad(DoingError):
    pass


class NoRule(DoingError):
    pass


class BadPaper(DoingError):
    pass


class NoNest(DoingError):
    pass


class NoDoor(DoingError):
    pass


class NoThinning(DoingError):
    pass


class NoAnswer(DoingError):
    pass


class NoQuestion(DoingError):
    pass


class NoFormula(DoingError):
    pass


class BadStep(DoingError):
    def __init__(self, at):
        DoingError.__init__(self, f"the step at {at} is not good")
        self.at = at


class NoText(DoingError):
    def __init__(self, at):
        DoingError.__init__(self, f"the text can't be read on from {at}")
        self.at = at
