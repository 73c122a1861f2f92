"""Taking backslashes out of a text such that the same tree is read."""

from plainmark.blocks import outline
from plainmark.columns import lines_of
from plainmark.definitions import definitions
from plainmark.leaves import Indented, Leaf
from plainmark.places import behind_all
from plainmark.reading import with_inlines
from plainmark.rows import folded, rows_in_block
from plainmark.steps import Reading, opened, states_of
from plainmark.stretches import blocks_of, spans_of, stretches_of


class Trim:
    """A text from which backslashes are taken out.

    All texts that are read as the same tree have the same definitions, known;
    seen has the inlines of raw texts with them. Of each backslash that has to
    stay, the place and the line are kept ahead of which that is certain: only
    if a line ahead of it changes, the backslash is to be tried again.
    """

    def __init__(self, text):
        blocks = outline(text)
        self.known = definitions(blocks)
        self.seen = {}
        self.tree = self.tree_of(blocks)
        self.stayed = []
        self.change(text)

    def change(self, text):
        """Let this be the text."""
        self.text = text
        self.lines = lines_of(text)
        self.states = states_of(self.lines)

    def tree_of(self, blocks):
        """The tree of an outline, with the definitions that are known."""
        return with_inlines(blocks, self.known, self.seen)

    def try_at(self, place):
        """Try to take out the backslash at a place; the place from which on to go on."""
        shorter = self.text[:place] + self.text[place + 1:]
        line = self.text.count("\n", 0, place)
        end, is_same = self.compare(shorter, line)
        if is_same:
            self.change(shorter)
            return self.first_touched(place, line)
        self.stayed.append((place, end))
        # Without another backslash of the same row it would be the same text.
        return behind_all("\\", self.text, place)

    def compare(self, shorter, line):
        """A tuple (line, is the same tree read) for a text with another such line.

        Both texts are read on from that line until their states meet; from there
        on the same is read. So it is certain then whether their trees are the
        same, but where lists may still become loose in one of them or in both.
        """
        lines = lines_of(shorter)
        old, new = Stage(self.states[line]), Stage(self.states[line])
        end = line
        while end < len(self.lines) and (end == line or old.reading.entries() != new.reading.entries()):
            old.read_lines(self.lines[end:end + 1])
            new.read_lines(lines[end:end + 1])
            end += 1
        old_trees = [self.tree_of(blocks) for blocks in old.rows()]
        new_trees = [self.tree_of(blocks) for blocks in new.rows()]
        if old_trees == new_trees and old.places() == new.places():
            return (end, True)
        if [loosened(tree) for tree in old_trees] != [loosened(tree) for tree in new_trees]:
            return (end, False)
        return (len(self.lines), self.tree_of(outline(shorter)) == self.tree)

    def first_touched(self, place, line):
        """The first place of those that are to be tried again when a line has changed."""
        many = 0
        while many < len(self.stayed) and self.stayed[many][1] <= line:
            many += 1
        touched = self.stayed[many:]
        del self.stayed[many:]
        if touched:
            return touched[0][0]
        return place


class Stage:
    """What is read on from a state, whose open blocks have nothing in them at first."""

    def __init__(self, entries):
        self.nodes = [opened(entry) for entry in entries]
        self.reading = Reading(self.nodes)

    def read_lines(self, lines):
        """Read more lines."""
        for line in lines:
            self.reading.read_line(line)

    def made(self):
        """The rows of stretches made in the document, and in each block that was open."""
        rows = [self.reading.stretches()]
        for node in self.nodes:
            if isinstance(node, Leaf):
                rows.append(node.finished([]))
            else:
                rows.append(stretches_of(node.parts))
        return rows

    def rows(self):
        """The same as rows of blocks, items being those of a list."""
        rows = []
        for stretches in self.made():
            blocks = blocks_of(stretches)
            if stretches and stretches[0].word == "item":
                blocks = (("list", "-", None, True, blocks),)
            rows.append(blocks)
        return rows

    def places(self):
        """What lines behind may ask for besides the state: where blocks stand, and blank lines."""
        blank_lines = []
        leaf = self.reading.leaf()
        if isinstance(leaf, Indented):
            blank_lines = list(leaf.texts)
        return [[spans_of(row) for row in self.made()], [node.last for node in self.nodes], blank_lines]


def loosened(blocks):
    """Blocks with loose lists alone."""
    return folded(blocks, rows_in_block, loosened_row)


def loosened_row(row, inner):
    """A row of blocks with loose lists alone, given the rows in each of them."""
    made = []
    for block, rows in zip(row, inner):
        if block[0] == "list":
            made.append(block[:3] + (False, tuple(rows)))
        elif block[0] == "quote":
            made.append(("quote", rows[0]))
        else:
            made.append(block)
    return tuple(made)


def without_backslashes(text):
    """A text without the backslashes that its tree does not need, the leftmost first."""
    trim = Trim(text)
    place = text.find("\\")
    while place >= 0:
        begin = trim.try_at(place)
        place = trim.text.find("\\", begin)
    return trim.text
