"""The refusals: each one a class of its own, all of them under WayError."""


class WayError(ValueError):
    pass


class NoWay(WayError):
    pass


class Blocked(WayError):
    def __init__(self, bridge, wheel):
        # The fields tell which ones; a number of any size stays out of the words.
        WayError.__init__(self, "a wheel does not fit a bridge of the way")
        self.bridge = bridge
        self.wheel = wheel


class TextError(WayError):
    def __init__(self, row):
        # The field tells which one; a number of any size stays out of the words.
        WayError.__init__(self, "a row of the text is refused")
        self.row = row


class BadRow(TextError):
    pass


class Twice(TextError):
    pass


class NoBridge(TextError):
    pass


class NoLoad(TextError):
    pass


class TooNear(TextError):
    pass


class TooLong(TextError):
    pass
