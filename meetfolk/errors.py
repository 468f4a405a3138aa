"""The errors of the package: one class for each thing that can be wrong with a call."""


class FolkError(ValueError):
    """The base class of all errors of the package."""


class BadFolk(FolkError):
    """The value is no folk."""


class BadCrowd(FolkError):
    """The value is no crowd of these folk."""


class BadRule(FolkError):
    """The value is no rule that can be used here."""


class BadRow(FolkError):
    """The value is no row of rules that can be used one behind another."""


class NeverRests(FolkError):
    """Some crowd of these folk can be kept meeting for ever."""


class AlwaysRests(FolkError):
    """No crowd of these folk can be kept meeting for ever."""


class TooMany(FolkError):
    """There are more than `most`."""

    def __init__(self, most):
        super().__init__(f"more than {most}")
        self.most = most


class ManyEnds(FolkError):
    """Some crowd of these folk has more than one end."""


class TooGreat(FolkError):
    """More folk would be in one mood than a crowd can have there."""


class NoRay(FolkError):
    """The ends do not come to repeat within the steps that are looked at."""


class BadNumber(FolkError):
    """The value is no number of the range that is asked for."""


class Unlike(FolkError):
    """Two folk do not have the same moods."""


class BadSum(FolkError):
    """The value is no sum of these folk."""


class NoMood(FolkError):
    """The value is no mood of these folk."""


class NotText(FolkError):
    """The value is no text."""


class InvalidText(FolkError):
    """What stands at the index `place` of a program cannot stand there."""

    def __init__(self, place):
        super().__init__(f"at index {place}")
        self.place = place


class BadMoods(FolkError):
    """The word is not made of unlike ascending letters."""


class BadMood(FolkError):
    """The word is not one mood of these folk."""


class Twice(FolkError):
    """The name `name` is told a second time."""

    def __init__(self, name):
        super().__init__(f"told twice: {name}")
        self.name = name


class Unknown(FolkError):
    """The name `name` is not told ahead of its use."""

    def __init__(self, name):
        super().__init__(f"not told: {name}")
        self.name = name


class Nobody(FolkError):
    """Nobody is in the mood out of which one should go."""


class NothingDone(FolkError):
    """There is nothing that could be taken back."""


class InvalidDesk(FolkError):
    """The line with the index `at` of a desk's text cannot stand there."""

    def __init__(self, at):
        super().__init__(f"at line index {at}")
        self.at = at


class BadShape(FolkError):
    """The value is no shape of a crowd of these folk."""


class BadClasses(FolkError):
    """The value does not tell classes of these moods."""


class NoLump(FolkError):
    """The moods cannot be lumped by these classes."""
