"""The tree of a text."""

from plainmark.blocks import outline
from plainmark.definitions import definitions
from plainmark.rows import folded, rows_in_block
from plainmark.scans import scanned


def read(text):
    """The tree of a text."""
    blocks = outline(text)
    return with_inlines(blocks, definitions(blocks), {})


def with_inlines(blocks, known, seen):
    """The blocks of an outline with inlines in the place of raw texts.

    Seen has the inlines of the raw texts that were met already with the same
    definitions.
    """
    return folded(blocks, rows_in_block, lambda row, inner: row_with_inlines(row, inner, known, seen))


def row_with_inlines(row, inner, known, seen):
    """The tuple of a row of blocks, given the rows in each of them."""
    return tuple([block_with_inlines(block, rows, known, seen) for block, rows in zip(row, inner)])


def block_with_inlines(block, rows, known, seen):
    """A block, given the rows in it, with inlines in the place of its raw text."""
    word = block[0]
    if word == "quote":
        return ("quote", rows[0])
    if word == "list":
        return block[:4] + (tuple(rows),)
    if word in ("heading", "paragraph"):
        raw = block[-1]
        if raw not in seen:
            seen[raw] = scanned(raw, known)
        return block[:-1] + (seen[raw],)
    return block
