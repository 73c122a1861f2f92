"""Which objects are trees of documents."""

from plainmark.links import is_label
from plainmark.places import ALLOWED
from plainmark.sources import is_integer_to

# What stands in a row: blocks, inlines, or inlines that are in a link.
BLOCKS = "blocks"
INLINES = "inlines"
LINKED = "linked"

MOST_ROWS = 100
HIGHEST_LEVEL = 6
HIGHEST_START = 999999999


def is_tree(thing):
    """Whether any object is a document."""
    rows = [(BLOCKS, thing)]
    for _ in range(MOST_ROWS):
        inner = []
        for sort, row in rows:
            found = rows_of_row(sort, row)
            if found is None:
                return False
            inner.extend(found)
        rows = inner
    return rows == []


def rows_of_row(sort, row):
    """The list of the tuples (sort, row) right in a row of a sort, None if it is none."""
    if not isinstance(row, tuple):
        return None
    found = []
    word_ahead = ""
    for one in row:
        rows = rows_of_one(sort, one)
        if rows is None or word_ahead == "text" and one[0] == "text":
            return None
        found.extend(rows)
        word_ahead = one[0]
    return found


def rows_of_one(sort, one):
    """The list of the tuples (sort, row) right in a block or an inline, None if it is none."""
    if not isinstance(one, tuple) or len(one) == 0 or not isinstance(one[0], str):
        return None
    if sort == BLOCKS:
        return block_rows(one)
    return inline_rows(sort, one)


def block_rows(block):
    """The rows in a tuple that begins with a string, None if it is no block."""
    word = block[0]
    if word not in BLOCK_CHECKS or len(block) != BLOCK_LENGTHS[word]:
        return None
    check = BLOCK_CHECKS[word]
    return check(block)


def quote_rows(block):
    return [(BLOCKS, block[1])]


def list_rows(block):
    _, sign, start, is_tight, items = block
    if not isinstance(sign, str) or not fits_start(sign, start) or not isinstance(is_tight, bool):
        return None
    if not is_filled(items):
        return None
    return [(BLOCKS, item) for item in items]


def heading_rows(block):
    if not is_integer_to(1, HIGHEST_LEVEL, block[1]):
        return None
    return [(INLINES, block[2])]


def break_rows(block):
    return []


def code_rows(block):
    _, text, info = block
    if info is None:
        fits = is_lines(text)
    else:
        fits = is_text(info) and (is_lines(text) or is_text(text) and text == "")
    return none_if_not(fits)


def html_rows(block):
    return none_if_not(is_lines(block[1]))


def definition_rows(block):
    _, label, destination, title = block
    return none_if_not(is_text(label) and is_label(label) and fits_target(destination, title))


def paragraph_rows(block):
    if not is_filled(block[1]):
        return None
    return [(INLINES, block[1])]


def inline_rows(sort, inline):
    """The rows in a tuple that begins with a string, None if it is no inline in such a row."""
    word = inline[0]
    if word in ("soft", "hard"):
        return none_if_not(len(inline) == 1)
    if word in ("text", "code", "html"):
        return none_if_not(len(inline) == 2 and is_text(inline[1]) and inline[1] != "")
    if word in ("emph", "strong"):
        if len(inline) != 2 or not is_filled(inline[1]):
            return None
        return [(sort, inline[1])]
    if word in ("link", "image"):
        return link_rows(sort, inline)
    return None


def link_rows(sort, inline):
    """The row in a link or an image, None if it is none in such a row."""
    word = inline[0]
    if len(inline) != 4 or not fits_target(inline[1], inline[2]) or word == "link" and sort == LINKED:
        return None
    if word == "link":
        return [(LINKED, inline[3])]
    return [(INLINES, inline[3])]


def none_if_not(fits):
    """No rows if something fits, otherwise None."""
    if fits:
        return []
    return None


def is_text(thing):
    """Whether any object is a string of allowed characters."""
    return isinstance(thing, str) and thing.strip(ALLOWED) == ""


def is_lines(thing):
    """Whether any object is a text of one line or more, with a line feed behind each."""
    return is_text(thing) and thing.endswith("\n")


def is_filled(thing):
    """Whether any object is a tuple of one or more."""
    return isinstance(thing, tuple) and len(thing) > 0


def fits_start(sign, start):
    """Whether lists of a sign have a start like this object."""
    if sign in ("-", "+", "*"):
        return start is None
    return sign in (".", ")") and is_integer_to(0, HIGHEST_START, start)


def fits_target(destination, title):
    """Whether two objects are a destination and a title."""
    return is_text(destination) and (title is None or is_text(title))


BLOCK_LENGTHS = {
    "quote": 2, "list": 5, "heading": 3, "break": 1, "code": 3, "html": 2, "definition": 4, "paragraph": 2,
}
BLOCK_CHECKS = {
    "quote": quote_rows, "list": list_rows, "heading": heading_rows, "break": break_rows,
    "code": code_rows, "html": html_rows, "definition": definition_rows, "paragraph": paragraph_rows,
}
