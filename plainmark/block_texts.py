"""Blocks written back to lines."""

from plainmark.columns import lines_of
from plainmark.inline_texts import inline_text, plain_text, target_text
from plainmark.links import is_label_text
from plainmark.rows import folded, rows_in_block

# Code by indent has so many; behind a line of a paragraph nothing begins with them.
CODE_BLANKS = "    "
SHORTEST_ROW = 3
UNDERLINES = ("===", "---")


def tree_text(tree):
    """The text that is read as a tree, if it can be written so."""
    lines = joined_lines(folded(tree, rows_in_block, row_lines), True)
    return "".join([line + "\n" for line in lines])


def joined_lines(pieces, has_gaps):
    """The lines of pieces, one behind another, perhaps with blank lines between them."""
    lines = []
    for index, piece in enumerate(pieces):
        if has_gaps and index > 0:
            lines.append("")
        lines.extend(piece)
    return lines


def row_lines(row, inner):
    """The list of the lines of each block in a row, given those of the rows in them."""
    pieces = []
    for index, block in enumerate(row):
        word = block[0]
        if word == "quote":
            pieces.append(quote_lines(inner[index][0]))
        elif word == "list":
            # So its items take more columns than the code has blanks.
            is_wide = is_indented(row[index + 1:index + 2])
            pieces.append(list_lines(block, inner[index], is_wide))
        else:
            pieces.append(leaf_lines(block))
    return pieces


def is_indented(row):
    """Whether a row begins with code by indent."""
    return len(row) > 0 and row[0][0] == "code" and row[0][2] is None


def quote_lines(pieces):
    """The lines of a quote, given those of its blocks."""
    lines = joined_lines(pieces, True)
    if not lines:
        return [">"]
    return [with_blanks(">", 1, line) for line in lines]


def with_blanks(sign, many, line):
    """A line behind a sign and so many blanks, without them if it is empty."""
    if line == "":
        return sign
    return sign + " " * many + line


def list_lines(block, rows, is_wide):
    """The lines of a list, given those of the blocks of its items."""
    _, sign, start, is_tight, items = block
    mark = sign
    if start is not None:
        mark = str(start) + sign
    pieces = []
    for item, row in zip(items, rows):
        many = 1
        if is_wide and not is_indented(item):
            many = len(CODE_BLANKS)
        pieces.append(item_lines(mark, many, joined_lines(row, not is_tight)))
    return joined_lines(pieces, not is_tight)


def item_lines(mark, many, lines):
    """The lines of an item with so many blanks behind its mark."""
    if not lines:
        return [mark]
    others = [with_blanks("", len(mark) + many, line) for line in lines[1:]]
    return [with_blanks(mark, many, lines[0])] + others


def leaf_lines(block):
    """The lines of a block that has no blocks in it."""
    word = block[0]
    if word == "paragraph":
        return paragraph_lines(inline_text(block[1]))
    if word == "heading":
        return heading_lines(block[1], inline_text(block[2]))
    if word == "break":
        return ["_" * SHORTEST_ROW]
    if word == "html":
        return lines_of(block[1])
    if word == "code" and block[2] is None:
        return [with_blanks("", len(CODE_BLANKS), line) for line in lines_of(block[1])]
    if word == "code":
        return fence_lines(block[1], block[2])
    _, label, destination, title = block
    return ["[" + label_text(label) + "]: " + target_text(destination, title)]


def paragraph_lines(content):
    """The lines of a paragraph with such a content."""
    lines = content.split("\n")
    return lines[:1] + [CODE_BLANKS + line for line in lines[1:]]


def heading_lines(level, content):
    """The lines of a heading; with several lines it needs an underline."""
    if "\n" in content:
        return paragraph_lines(content) + [UNDERLINES[min(level, len(UNDERLINES)) - 1]]
    return [with_blanks("#" * level, 1, content)]


def fence_lines(text, info):
    """The lines of a code between fences that are longer than any such row in it."""
    fence = "~" * SHORTEST_ROW
    while fence in text:
        fence += "~"
    return [with_blanks(fence, 1, plain_text(info))] + lines_of(text) + [fence]


def label_text(label):
    """A label's text that is normalised to a label."""
    if is_label_text(label):
        return label
    return label + " "
