"""The blocks of a text: its outline, their lines, and states."""

from plainmark.columns import lines_of
from plainmark.sources import check_line, check_source
from plainmark.steps import Reading, reading_of, resumed
from plainmark.stretches import blocks_of, spans_of


class Reader:
    """It reads on, line by line."""

    def __init__(self):
        self.reading = Reading([])

    def feed(self, line):
        """Read one line more."""
        check_line(line)
        self.reading.read_line(line)

    def state(self):
        """The state behind the lines that are read."""
        return self.reading.entries()

    def blocks(self):
        """The outline, if the text ended here."""
        return blocks_of(self.reading.stretches())


def outline(text):
    """The tuple of the blocks of a text, with raw texts in the place of inlines."""
    return blocks_of(read_whole(text).stretches())


def spans(text):
    """The list of tuples (place, word, first line, last line) of all blocks and items."""
    return spans_of(read_whole(text).stretches())


def state(text):
    """The state behind all lines of a text."""
    return read_whole(text).entries()


def next_state(ahead, line):
    """The state behind one line more."""
    check_line(line)
    reading = resumed(ahead)
    reading.read_line(line)
    return reading.entries()


def read_whole(text):
    """The reading of all lines of a text."""
    check_source(text)
    return reading_of(lines_of(text))
