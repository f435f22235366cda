"""The errors of the package."""


class TalkError(ValueError):
    """An argument that is refused."""


class BadTalk(TalkError):
    """Rows, or pairs, that make no talk; place tells where."""

    def __init__(self, place):
        self.place = place


class BadDoing(TalkError):
    """A value that is no doing of the talk."""

    def __init__(self, value):
        self.value = value


class BadNumber(TalkError):
    """A value that is no number of what is asked for."""

    def __init__(self, value):
        self.value = value


class BadRun(TalkError):
    """A value that is no run of the talk; place tells where."""

    def __init__(self, place):
        self.place = place


class BadCut(TalkError):
    """A value that is no cut of the talk."""

    def __init__(self, value):
        self.value = value


class BadText(TalkError):
    """A text that tells no rows; place tells where it ends to do so."""

    def __init__(self, place):
        self.place = place


class Waits(TalkError):
    """A letter that cannot be got, as it is not sent."""

    def __init__(self, letter):
        self.letter = letter


class NothingLeft(TalkError):
    """Nothing can be taken back, or be done again."""


class TooGreat(OverflowError):
    """More than the most that is allowed is wanted."""

    def __init__(self, most):
        self.most = most
