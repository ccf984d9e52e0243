"""The refusals."""


class WebError(ValueError):
    pass


class BadWeb(WebError):
    pass


class TooFew(WebError):
    pass


class BadPoint(WebError):
    pass


class BadCount(WebError):
    pass


class Tied(WebError):
    pass


class BadText(WebError):
    pass
