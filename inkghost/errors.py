"""The errors of the package: one class for each kind of wrong argument."""


class InkError(ValueError):
    """What all errors of the package have in common."""


class BadPanel(InkError):
    """Something is not a panel, or a part of a new one is wrong; the part is None in the first case."""

    def __init__(self, part=None):
        super().__init__(f"wrong panel: {part}")
        self.part = part


class BadState(InkError):
    """Something is not a state of the panel."""


class BadPicture(InkError):
    """A picture cannot follow the one that is shown."""


class BadBanks(InkError):
    """Something is not a set of banks that fits."""


class BadCount(InkError):
    """A number of pictures is not within the limits."""


class BadRule(InkError):
    """Something is not one of the words for the rules."""


class BadMemory(InkError):
    """Something is not a memory of the rule."""


class BadPictures(InkError):
    """A list of pictures is not a road; the index of its first wrong item, or None if it is no list at all."""

    def __init__(self, index=None):
        super().__init__(f"wrong pictures: {index}")
        self.index = index


class BadScript(InkError):
    """A script is wrong; the index of its first wrong item, or None if it is no script at all."""

    def __init__(self, index=None):
        super().__init__(f"wrong script: {index}")
        self.index = index


class BadSets(InkError):
    """Sets of banks do not fit; the index of the first wrong one, or None if it is no list that fits at all."""

    def __init__(self, index=None):
        super().__init__(f"wrong sets: {index}")
        self.index = index


class BadDivision(InkError):
    """Something is not a division of the cells."""


class BadRates(InkError):
    """Something is not a tuple of rates."""


class BadLimit(InkError):
    """Something is not a limit."""


class NothingDone(InkError):
    """There is nothing that can be undone."""


class BadText(InkError):
    """A text cannot be read; the row of its first wrong line."""

    def __init__(self, row=0):
        super().__init__(f"wrong text: {row}")
        self.row = row
