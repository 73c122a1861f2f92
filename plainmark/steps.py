"""Reading on: which blocks one line more makes of those that are open."""

from plainmark.begins import MOST_INDENT, behind_sign_of_quote, level_of_underline, mark_of, words_of
from plainmark.columns import indent, is_blank, taken, whole
from plainmark.containers import Item, Listing, Quote
from plainmark.leaves import Fence, Html, Indented, Leaf, Paragraph, is_definitions_alone, leaf_at
from plainmark.stretches import stretches_of

# So many blank columns behind a mark are taken; of more, one is.
MOST_BEHIND_MARK = 4
# Where a reading goes on with a state, its open blocks stand ahead of line 0.
LINE_AHEAD = -1


class Reading:
    """The blocks of a text as far as it is read.

    The chain has the open blocks, each in the one ahead of it. While a line is
    read, kept is the number of containers in the chain that go on or have begun
    with it; within and lazy tell whether the line may go on with a paragraph.
    """

    def __init__(self, chain):
        self.top = []
        self.chain = list(chain)
        self.line = 0
        self.kept = 0
        self.within = False
        self.lazy = False

    def read_line(self, line):
        """Read one line more."""
        rest = self.go_on(whole(line))
        leaf = self.leaf()
        all_on = leaf is not None and self.kept == len(self.chain) - 1
        if all_on and leaf.takes(rest, self.line):
            if not leaf.is_open:
                self.chain.pop()
        else:
            in_paragraph = isinstance(leaf, Paragraph)
            self.within = in_paragraph and all_on
            self.lazy = in_paragraph and not all_on
            self.begin(rest)
        self.line += 1

    def leaf(self):
        """The leaf that is open, or None."""
        if self.chain and isinstance(self.chain[-1], Leaf):
            return self.chain[-1]
        return None

    def go_on(self, rest):
        """The rest behind what the containers take that go on."""
        self.kept = 0
        for block in self.chain:
            if isinstance(block, Leaf):
                break
            behind = block.gone_on(rest)
            if behind is None:
                break
            rest = behind
            block.last = self.line
            self.kept += 1
        return rest

    def begin(self, rest):
        """Begin what fits a rest; otherwise the rest is blank, or of a paragraph."""
        while not is_blank(rest[0]):
            behind = self.behind_new_quote(rest)
            if behind is None:
                if self.begin_leaf(rest):
                    return
                behind = self.behind_new_item(rest)
            if behind is None:
                self.add_to_paragraph(words_of(rest))
                return
            rest = behind
        self.end()

    def behind_new_quote(self, rest):
        """The rest behind the sign of a quote that begins, or None."""
        behind = behind_sign_of_quote(rest)
        if behind is not None:
            quote = Quote(self.line)
            self.end()
            self.put(quote)
            self.open_container(quote)
        return behind

    def behind_new_item(self, rest):
        """The rest behind the mark of an item that begins, or None."""
        wide = indent(rest)
        mark = mark_of(words_of(rest))
        if wide > MOST_INDENT or mark is None or self.within and not may_interrupt(mark, words_of(rest)):
            return None
        length, sign, value = mark
        text, column, _ = taken(rest, wide)
        behind = (text[length:], column + length, 0)
        blanks = indent(behind)
        if is_blank(behind[0]) or blanks > MOST_BEHIND_MARK:
            blanks = 1
        self.end()
        self.open_list(sign, value)
        item = Item(self.line, wide + length + blanks, False)
        self.chain[-1].parts.append(item)
        self.open_container(item)
        return taken(behind, min(blanks, indent(behind)))

    def open_list(self, sign, value):
        """Let the open list in the container be one of this sign."""
        ahead = self.chain[-1:]
        if ahead and isinstance(ahead[0], Listing) and ahead[0].sign == sign:
            return
        listing = Listing(self.line, sign, value)
        self.put(listing)
        self.chain.append(listing)

    def begin_leaf(self, rest):
        """Begin the leaf, but a paragraph, that fits a rest; tell whether there is one."""
        if self.within and self.underline(rest):
            return True
        leaf = leaf_at(rest, self.line, self.within or self.lazy)
        if leaf is None:
            return False
        self.end()
        self.put(leaf)
        if leaf.is_open:
            self.chain.append(leaf)
        return True

    def underline(self, rest):
        """Underline the open paragraph if a rest does so; tell whether it does."""
        level = level_of_underline(words_of(rest))
        paragraph = self.chain[-1]
        if level == 0 or indent(rest) > MOST_INDENT or is_definitions_alone(paragraph.raw()):
            return False
        paragraph.become_heading(level, self.line)
        self.chain.pop()
        return True

    def add_to_paragraph(self, words):
        """Go on with the paragraph that is open, or begin one."""
        if self.lazy:
            for block in self.chain:
                block.last = self.line
        if self.within or self.lazy:
            self.chain[-1].take(words, self.line)
        else:
            paragraph = Paragraph(self.line, [words])
            self.end()
            self.put(paragraph)
            self.chain.append(paragraph)

    def end(self):
        """End all that did not go on, and a leaf."""
        del self.chain[self.kept:]

    def put(self, block):
        """Put a block that is no item into the innermost container."""
        if self.chain and isinstance(self.chain[-1], Listing):
            self.chain.pop()
        if not self.chain:
            self.top.append(block)
            return
        container = self.chain[-1]
        container.parts.append(block)
        if isinstance(container, Item):
            container.has_begun = True

    def open_container(self, container):
        """Go on in a container that begins with this line."""
        self.chain.append(container)
        self.kept = len(self.chain)
        self.within = False
        self.lazy = False

    def entries(self):
        """The state behind the lines that are read."""
        return tuple([block.entry() for block in self.chain])

    def stretches(self):
        """The list of the stretches of the document, if it ended here."""
        return stretches_of(self.top)

    def number_ended(self):
        """The number of blocks of the document that have ended."""
        if self.chain:
            return len(stretches_of(self.top[:-1]))
        return len(stretches_of(self.top))


def may_interrupt(mark, words):
    """Whether an item with such a mark may begin within a paragraph."""
    length, _, value = mark
    return value in (None, 1) and not is_blank(words[length:])


def reading_of(lines):
    """The reading of these lines."""
    reading = Reading([])
    for line in lines:
        reading.read_line(line)
    return reading


def states_of(lines):
    """The list of the states of these lines: behind none, and behind each of them."""
    reading = Reading([])
    states = [reading.entries()]
    for line in lines:
        reading.read_line(line)
        states.append(reading.entries())
    return states


def resumed(entries):
    """A reading that goes on with a state."""
    return Reading([opened(entry) for entry in entries])


def opened(entry):
    """An open block of which a state tells this."""
    word = entry[0]
    if word == "quote":
        return Quote(LINE_AHEAD)
    if word == "list":
        return Listing(LINE_AHEAD, entry[1], None)
    if word == "item":
        return Item(LINE_AHEAD, entry[1], entry[2])
    if word == "paragraph":
        return Paragraph(LINE_AHEAD, entry[1].split("\n"))
    if word == "fence":
        return Fence(LINE_AHEAD, entry[1], entry[2], entry[3], "")
    if word == "indented":
        return Indented(LINE_AHEAD, [])
    return Html(LINE_AHEAD, [], entry[1])
