"""The errors of the package."""


class YardError(ValueError):
    """The base of all errors of the package except NoPart."""


class NoText(YardError):
    """A text that cannot be read; `at` is the index of the word or row at fault."""

    def __init__(self, at):
        self.at = at


class NoPlan(YardError):
    """Rows that are no plan; `word` names the violation, `at` is the index of its row."""

    def __init__(self, word, at):
        self.word = word
        self.at = at


class OtherPlan(YardError):
    """Two yards whose plans are not equal."""


class Falls(YardError):
    """A yard that does not stand, or a deed that is not careful; `names` are the parts that fall."""

    def __init__(self, names):
        self.names = names


class NoDeed(YardError):
    """An item that is no deed or cannot be done; `at` is its index."""

    def __init__(self, at):
        self.at = at


class NoProp(YardError):
    """There is no prop to remove."""


class NoRow(YardError):
    """A row that a desk does not take."""


class NoPart(KeyError):
    """A name that is not the name of a part of the plan."""

    def __init__(self, name):
        self.name = name
