"""Taking backslashes out of a text such that the same tree is read."""

from plainmark.blocks import outline
from plainmark.columns import lines_of
from plainmark.definitions import definitions
from plainmark.places import behind_all
from plainmark.reading import with_inlines
from plainmark.steps import Reading, reading_of, states_of
from plainmark.stretches import blocks_of


class Trim:
    """A text from which backslashes are taken out.

    All texts that are read as the same tree have the same definitions, known.
    What a backslash may change ends where no block is open, with it and without
    it. Of each one that has to stay, its place and the line of that end are
    kept: only if a line ahead of the end changes, it is to be tried again.
    """

    def __init__(self, text):
        self.known = definitions(outline(text))
        self.seen = {}
        self.stayed = []
        self.change(text)

    def change(self, text):
        """Let this be the text."""
        self.text = text
        self.lines = lines_of(text)
        self.states = states_of(self.lines)

    def try_at(self, place):
        """Try to take out the backslash at a place; the place from which on to go on."""
        shorter = self.text[:place] + self.text[place + 1:]
        line = self.text.count("\n", 0, place)
        end, is_same = self.compare(lines_of(shorter), line)
        if is_same:
            self.change(shorter)
            return self.first_touched(place, line)
        self.stayed.append((place, end))
        # Without another backslash of the same row it would be the same text.
        return behind_all("\\", self.text, place)

    def compare(self, lines, line):
        """A tuple (line, is the same tree read) for lines of which one is another.

        What is behind the first of these lines is the same for both.
        """
        begin = line
        while self.states[begin] != ():
            begin -= 1
        reading = Reading([])
        end = len(self.lines)
        for number in range(begin, len(lines)):
            reading.read_line(lines[number])
            if number >= line and reading.entries() == () and self.states[number + 1] == ():
                end = number + 1
                break
        old = reading_of(self.lines[begin:end])
        return (end, self.tree_of(reading) == self.tree_of(old))

    def tree_of(self, reading):
        """The tree of what was read, with the definitions that are known."""
        return with_inlines(blocks_of(reading.stretches()), self.known, self.seen)

    def first_touched(self, place, line):
        """The first place of those that are to be tried again when a line has changed."""
        many = 0
        while many < len(self.stayed) and self.stayed[many][1] <= line:
            many += 1
        touched = self.stayed[many:]
        del self.stayed[many:]
        if touched:
            return touched[0][0]
        return place


def without_backslashes(text):
    """A text without the backslashes that its tree does not need, the leftmost first."""
    trim = Trim(text)
    place = text.find("\\")
    while place >= 0:
        begin = trim.try_at(place)
        place = trim.text.find("\\", begin)
    return trim.text
