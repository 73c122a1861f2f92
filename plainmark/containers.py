"""Containers: quotes, lists and their items, as they are read.

For each of them, entry() is what a state tells of it, gone_on(rest) the rest
behind what it takes of a line, None if it does not go on, and finished(parts)
the list of the stretches that it makes, of those that its parts have made.
"""

from plainmark.begins import behind_sign_of_quote
from plainmark.columns import indent, is_blank, taken
from plainmark.stretches import Stretch, blocks_of, has_gap


class Container:
    """What has parts, and the first and the last line that went on with it."""

    def __init__(self, line):
        self.first = line
        self.last = line
        self.parts = []


class Quote(Container):
    """A quote."""

    def entry(self):
        return ("quote",)

    def gone_on(self, rest):
        return behind_sign_of_quote(rest)

    def finished(self, parts):
        block = ("quote", blocks_of(parts))
        return [Stretch("quote", self.first, self.last, block, parts)]


class Listing(Container):
    """A list, with its items as parts."""

    def __init__(self, line, sign, start):
        super().__init__(line)
        self.sign = sign
        self.start = start

    def entry(self):
        return ("list", self.sign)

    def gone_on(self, rest):
        return rest

    def finished(self, parts):
        is_loose = has_gap(parts) or any([has_gap(item.parts) for item in parts])
        block = ("list", self.sign, self.start, not is_loose, blocks_of(parts))
        return [Stretch("list", self.first, parts[-1].last, block, parts)]


class Item(Container):
    """An item of a list; has_begun tells whether anything has begun in it."""

    def __init__(self, line, columns, has_begun):
        super().__init__(line)
        self.columns = columns
        self.has_begun = has_begun

    def entry(self):
        return ("item", self.columns, self.has_begun)

    def gone_on(self, rest):
        blank = is_blank(rest[0])
        if blank and not self.has_begun:
            return None
        wide = indent(rest)
        if wide >= self.columns:
            return taken(rest, self.columns)
        if blank:
            return taken(rest, wide)
        return None

    def finished(self, parts):
        last = self.first
        if parts:
            last = parts[-1].last
        return [Stretch("item", self.first, last, blocks_of(parts), parts)]
