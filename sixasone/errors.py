"""All errors of this package; each is made with its fields, in their order."""


class WebError(ValueError):
    """The base of all errors of this package."""


class BadRatio(WebError):
    """The argument or item with this index is no number for a ratio."""

    def __init__(self, at):
        self.at = at


class NoRatio(WebError):
    """There is no such sum, difference, product, quotient or rest."""


class BadName(WebError):
    """This is no name."""

    def __init__(self, name):
        self.name = name


class BadWeb(WebError):
    """The value with this index is no part or no link of a web."""

    def __init__(self, at):
        self.at = at


class NoName(WebError):
    """This is no name of what is asked."""

    def __init__(self, name):
        self.name = name


class NotTied(WebError):
    """The web has a net in it."""


class NotPlain(WebError):
    """This name has several places."""

    def __init__(self, name):
        self.name = name


class BadValue(WebError):
    """What is told for this name is no value."""

    def __init__(self, name):
        self.name = name


class NoValue(WebError):
    """This name has no value."""

    def __init__(self, name):
        self.name = name


class BadTree(WebError):
    """This is no tree of cases."""


class BadStream(WebError):
    """This is no stream of the web."""


class BadHeights(WebError):
    """These are no heights of the web."""


class NoTurn(WebError):
    """Nothing can be turned there."""

    def __init__(self, at):
        self.at = at


class TooMany(WebError):
    """There are more than this many."""

    def __init__(self, most):
        self.most = most


class BadText(WebError):
    """No right text goes on like this behind so many characters."""

    def __init__(self, at):
        self.at = at


class Worse(WebError):
    """The web would lose this way of its floor; the cut stands against it."""

    def __init__(self, way, cut):
        self.way = way
        self.cut = cut


class Barred(WebError):
    """This cut bars a way of the floor."""

    def __init__(self, cut):
        self.cut = cut


class NoLine(WebError):
    """This is no line that a desk knows."""
