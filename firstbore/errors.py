"""The errors of the package; each keeps what it was made with."""


class BoreError(ValueError):
    """Something that was asked cannot be done."""


class InvalidPlan(BoreError):
    """An argument makes no plan: the one with the parameter name `word`."""

    def __init__(self, word):
        self.word = word


class InvalidText(BoreError):
    """The line with the number `at` is not of the form of a line at its place."""

    def __init__(self, at):
        self.at = at


class InvalidWorld(BoreError):
    """The thing with the number `at` makes no world of the plan."""

    def __init__(self, at):
        self.at = at


class InvalidLooks(BoreError):
    """The thing with the number `at` is no look of the plan."""

    def __init__(self, at):
        self.at = at


class InvalidCommand(BoreError):
    """A desk was told something that is no command."""


class NoWorld(BoreError):
    """No world fits the looks."""


class Refused(BoreError):
    """The thing with the number `at` is not taken into a live book."""

    def __init__(self, at):
        self.at = at


class NoName(KeyError):
    """The value `name` is no name of a person of the plan."""

    def __init__(self, name):
        self.name = name
