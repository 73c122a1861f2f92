"""Definitions: one at a place of a text, and all those of a document."""

from plainmark.columns import WHITE
from plainmark.links import destination_at, label_at, normalised, title_at
from plainmark.places import behind_all, behind_gap, behind_sign
from plainmark.rows import rows_in_block


def definition_at(text, place):
    """A tuple (place behind, label, destination, title) or None."""
    label = label_at(text, place)
    if label is None:
        return None
    end, words = label
    if not text.startswith(":", end):
        return None
    target = destination_at(text, behind_gap(text, end + 1))
    if target is None:
        return None
    end, destination = target
    tail = title_and_line(text, end)
    if tail is None:
        tail = (behind_line(text, end), None)
    end, title = tail
    if end is None:
        return None
    return (end, normalised(words), destination, title)


def title_and_line(text, place):
    """A tuple (place behind its line, title) for a gap and a title, or None."""
    begin = behind_gap(text, place)
    title = title_at(text, begin)
    if begin == place or title is None:
        return None
    end = behind_line(text, title[0])
    if end is None:
        return None
    return (end, title[1])


def behind_line(text, place):
    """The place behind a line of which nothing but white is left, or None."""
    end = behind_all(WHITE, text, place)
    if end == len(text):
        return end
    return behind_sign("\n", text, end)


def definitions(blocks):
    """A dict from labels to tuples (destination, title), of the first of each."""
    found = {}
    ahead = list(blocks)[::-1]
    while ahead:
        block = ahead.pop()
        if block[0] == "definition":
            _, label, destination, title = block
            found.setdefault(label, (destination, title))
        ahead.extend(blocks_in(block)[::-1])
    return found


def blocks_in(block):
    """The list of the blocks right in a block, those in its items for a list."""
    return [one for row in rows_in_block(block) for one in row]
