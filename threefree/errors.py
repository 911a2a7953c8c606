"""The refusals of the program."""


class WebError(ValueError):
    pass


class NoWeb(WebError):
    pass


class NotFree(WebError):
    def __init__(self, triangle):
        WebError.__init__(self, f"the three points of {triangle!r} are all tied")
        self.triangle = triangle


class NoCopying(WebError):
    pass


class NoCount(WebError):
    pass
