"""The refusals, each with a class of its own."""


class WalkError(ValueError):
    pass


class BadNet(WalkError):
    pass


class BadWalk(WalkError):
    pass


class BadCompany(WalkError):
    pass


class NoNumber(WalkError):
    pass
