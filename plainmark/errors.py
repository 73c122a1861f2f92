"""The errors that Plainmark raises.

Messages are fixed words: an integer of thousands of digits cannot be
written into one.
"""


class PlainmarkError(ValueError):
    """What all errors of this package are."""


class NoSource(PlainmarkError):
    """An argument is no text (place -1), or a line has a line feed at a place."""

    def __init__(self, place):
        super().__init__("no string, or a line with a line feed in it")
        self.place = place


class NoDefinitions(PlainmarkError):
    """An argument is no dict of definitions."""

    def __init__(self):
        super().__init__()


class NoLabel(PlainmarkError):
    """An argument is no label's text."""

    def __init__(self):
        super().__init__()


class NoTree(PlainmarkError):
    """An argument is no tree of a document."""

    def __init__(self):
        super().__init__()


class NoText(PlainmarkError):
    """No text was found that is read as a tree."""

    def __init__(self):
        super().__init__()


class NoEdit(PlainmarkError):
    """An argument is no edit: -1, or the index of what is wrong in it."""

    def __init__(self, index):
        super().__init__("no edit of this text")
        self.index = index
