"""The refusals of the program, one class for each."""


class DeskError(ValueError):
    pass


# Each of these stands straight beneath DeskError, so that whoever takes one
# of them by name never takes another one with it.


class TooMany(DeskError):
    pass


class Ring(DeskError):
    pass


class NoText(DeskError):
    pass


class Taken(DeskError):
    pass


class NoClerk(DeskError):
    pass


class NoLink(DeskError):
    pass


class NoRule(DeskError):
    pass


class NoRound(DeskError):
    pass


class NoFile(DeskError):
    pass


class Finished(DeskError):
    pass


class NoAct(DeskError):
    pass


class Done(DeskError):
    pass


class NotDone(DeskError):
    pass


class NotYet(DeskError):
    pass


class NoRight(DeskError):
    pass


class Stuck(DeskError):
    pass


class NoRow(DeskError):
    pass
