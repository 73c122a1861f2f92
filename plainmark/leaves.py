"""Leaves: paragraphs, headings, breaks, codes and HTML, as they are read.

For each of them, is_open tells whether further lines may belong to it,
entry() is what a state tells of it then, takes(rest, line) takes one more line, if
it belongs to it, and tells so, and finished(parts) is the list of the stretches
that it makes.
"""

from plainmark.begins import MOST_INDENT, fence_of, heading_of, is_break, is_fence_end, words_of
from plainmark.columns import WHITE, indent, is_blank, taken, told
from plainmark.definitions import definition_at
from plainmark.stretches import Stretch
from plainmark.tags import html_ends, html_kind

CODE_INDENT = 4
# The kind of HTML that does not end a paragraph.
MEEK_KIND = 7


class Leaf:
    """What has lines alone: the first and the last one, and their texts."""

    def __init__(self, line, texts, is_open):
        self.first = line
        self.last = line
        self.parts = []
        self.texts = texts
        self.is_open = is_open

    def takes(self, rest, line):
        return False

    def take(self, text, line):
        """Take one more line with such a text."""
        self.texts.append(text)
        self.last = line

    def alone(self, block):
        """The list of the stretch that this is as one block."""
        return [Stretch(block[0], self.first, self.last, block, [])]


class Paragraph(Leaf):
    """A paragraph, or, with a level above 0, a heading with an underline."""

    def __init__(self, line, texts):
        super().__init__(line, texts, True)
        self.level = 0

    def entry(self):
        return ("paragraph", "\n".join(self.texts))

    def raw(self):
        """The lines joined, without white at the end of all."""
        return "\n".join(self.texts).rstrip(WHITE)

    def become_heading(self, level, line):
        """Become a heading of this level, with its underline in this line."""
        self.level = level
        self.last = line

    def finished(self, parts):
        text = self.raw()
        made = []
        begin = 0
        for end, block in definitions_ahead(text):
            first = self.first + text.count("\n", 0, begin)
            lines = text[begin:end].rstrip("\n").count("\n")
            made.append(Stretch("definition", first, first + lines, block, []))
            begin = end
        if begin < len(text):
            first = self.first + text.count("\n", 0, begin)
            block = self.block_of(text[begin:])
            made.append(Stretch(block[0], first, self.last, block, []))
        return made

    def block_of(self, raw):
        """The block of what definitions have left."""
        if self.level > 0:
            return ("heading", self.level, raw)
        return ("paragraph", raw)


class Heading(Leaf):
    """A heading of one line."""

    def __init__(self, line, level, raw):
        super().__init__(line, [raw], False)
        self.level = level

    def finished(self, parts):
        return self.alone(("heading", self.level, self.texts[0]))


class Break(Leaf):
    """A line across."""

    def __init__(self, line):
        super().__init__(line, [], False)

    def finished(self, parts):
        return self.alone(("break",))


class Fence(Leaf):
    """A code between fences."""

    def __init__(self, line, sign, length, wide, info):
        super().__init__(line, [], True)
        self.sign = sign
        self.length = length
        self.wide = wide
        self.info = info

    def entry(self):
        return ("fence", self.sign, self.length, self.wide)

    def takes(self, rest, line):
        if is_fence_end(self.sign, self.length, rest):
            self.last = line
            self.is_open = False
        else:
            self.take(told(taken(rest, min(self.wide, indent(rest)))), line)
        return True

    def finished(self, parts):
        return self.alone(("code", joined_lines(self.texts), self.info))


class Indented(Leaf):
    """A code by indent; blank lines at its end count only if others follow."""

    def __init__(self, line, texts):
        super().__init__(line, texts, True)

    def entry(self):
        return ("indented",)

    def takes(self, rest, line):
        if indent(rest) >= CODE_INDENT:
            self.take(told(taken(rest, CODE_INDENT)), line)
            return True
        if is_blank(rest[0]):
            self.take("", line)
            return True
        return False

    def finished(self, parts):
        texts = list(self.texts)
        while texts and is_blank(texts[-1]):
            texts.pop()
        block = ("code", joined_lines(texts), None)
        return [Stretch("code", self.first, self.first + len(texts) - 1, block, [])]


class Html(Leaf):
    """HTML of a kind."""

    def __init__(self, line, texts, kind):
        super().__init__(line, texts, True)
        self.kind = kind

    def entry(self):
        return ("html", self.kind)

    def takes(self, rest, line):
        text = told(rest)
        # Only kinds 6 and 7 end with a blank line, which is none of theirs.
        if is_blank(text) and html_ends(self.kind, text):
            return False
        self.take(text, line)
        self.is_open = not html_ends(self.kind, text)
        return True

    def finished(self, parts):
        return self.alone(("html", joined_lines(self.texts)))


def joined_lines(texts):
    """The texts with a line feed behind each."""
    return "".join([text + "\n" for text in texts])


def definitions_ahead(text):
    """The list of tuples (place behind, block) for the definitions at the begin of a text."""
    found = []
    definition = definition_at(text, 0)
    while definition is not None:
        end, label, destination, title = definition
        found.append((end, ("definition", label, destination, title)))
        definition = definition_at(text, end)
    return found


def is_definitions_alone(text):
    """Whether nothing is left of a text when definitions are taken off."""
    found = definitions_ahead(text)
    return len(found) > 0 and found[-1][0] == len(text)


def leaf_at(rest, line, in_paragraph):
    """The leaf that begins with a rest that is not blank, or None.

    Paragraphs and underlines are none of these. Not all of them begin where a
    paragraph may go on.
    """
    wide = indent(rest)
    words = words_of(rest)
    if wide > MOST_INDENT:
        return indented_at(rest, line, in_paragraph)
    heading = heading_of(words)
    if heading is not None:
        return Heading(line, heading[0], heading[1])
    fence = fence_of(words)
    if fence is not None:
        return Fence(line, fence[0], fence[1], wide, fence[2])
    kind = html_kind(words)
    if kind > 0 and not (kind == MEEK_KIND and in_paragraph):
        return html_at(rest, line, kind)
    if is_break(words):
        return Break(line)
    return None


def indented_at(rest, line, in_paragraph):
    """The code that begins by an indent, or None."""
    if in_paragraph:
        return None
    return Indented(line, [told(taken(rest, CODE_INDENT))])


def html_at(rest, line, kind):
    """The HTML of a kind that begins with a rest, and perhaps ends with it."""
    text = told(rest)
    html = Html(line, [text], kind)
    html.is_open = not html_ends(kind, text)
    return html
