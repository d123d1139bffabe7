"""The refusals: one class for each, all of them under HubError."""


class HubError(ValueError):
    pass


class NoTurn(HubError):
    pass


class NoFit(HubError):
    pass


class TooWide(HubError):
    pass


class NoRing(HubError):
    pass


class NoHole(HubError):
    pass


class NoWheel(HubError):
    pass


class NoNumber(HubError):
    pass


class NoQuotient(HubError):
    pass


class NoText(HubError):
    pass


class NoName(HubError):
    pass


class NoRow(HubError):
    pass
