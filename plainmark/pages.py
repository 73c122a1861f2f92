"""The page of a tree: a text of HTML."""

from plainmark.errors import NoTree
from plainmark.places import INLINE_WHITE
from plainmark.rows import folded, rows_in_block, rows_in_inline
from plainmark.trees import is_tree


def page(tree):
    """The page of a tree."""
    if not is_tree(tree):
        raise NoTree()
    return joined_pages(folded(tree, rows_in_block, block_pages))


def escaped(text):
    """A text with the four signs of HTML as references."""
    return text.replace("&", "&amp;").replace("<", "&lt;").replace(">", "&gt;").replace('"', "&quot;")


def words(row):
    """The words of a tuple of inlines."""
    return folded(row, rows_in_inline, row_words)


def block_pages(row, inner):
    """The list of tuples (page, inlines alone) of a row of blocks, given those of the rows in them.

    The inlines alone are None for a block that is no paragraph.
    """
    return [pages_of_block(block, rows) for block, rows in zip(row, inner)]


def joined_pages(pages):
    """The pages of a row of blocks, one behind another."""
    return "".join([whole for whole, _ in pages])


def pages_of_block(block, rows):
    """A tuple (page, inlines alone) of a block."""
    word = block[0]
    if word == "paragraph":
        bare = inline_page(block[1])
        return ("<p>" + bare + "</p>\n", bare)
    if word == "quote":
        return ("<blockquote>\n" + joined_pages(rows[0]) + "</blockquote>\n", None)
    if word == "list":
        return (list_page(block, rows), None)
    return (leaf_page(block), None)


def leaf_page(block):
    """The page of a block that has no blocks in it, and is no paragraph."""
    word = block[0]
    if word == "heading":
        return f"<h{block[1]}>" + inline_page(block[2]) + f"</h{block[1]}>\n"
    if word == "break":
        return "<hr />\n"
    if word == "code":
        return "<pre><code" + language(block[2]) + ">" + escaped(block[1]) + "</code></pre>\n"
    if word == "html":
        return block[1]
    return ""


def language(info):
    """The attribute that tells the language of a code with this info."""
    if info is None or info[:1] in INLINE_WHITE:
        return ""
    return ' class="language-' + escaped(info.split()[0]) + '"'


def list_page(block, rows):
    """The page of a list, given the pages in its items."""
    start, is_tight = block[2], block[3]
    items = "".join([item_page(pages, is_tight) for pages in rows])
    if start is None:
        return "<ul>\n" + items + "</ul>\n"
    if start == 1:
        return "<ol>\n" + items + "</ol>\n"
    return f'<ol start="{start}">\n' + items + "</ol>\n"


def item_page(pages, is_tight):
    """The page of an item, given those in it."""
    told = "<li>"
    is_first = True
    for whole, bare in pages:
        is_bare = is_tight and bare is not None
        if whole != "":
            if not told.endswith("\n") and not (is_bare and is_first):
                told += "\n"
            if is_bare:
                told += bare
            else:
                told += whole
            is_first = False
    return told + "</li>\n"


def inline_page(row):
    """The page of a row of inlines."""
    return folded(row, rows_in_inline, row_page)


def row_page(row, inner):
    """The page of a row of inlines, given those of the rows in them."""
    return "".join([page_of_inline(inline, rows) for inline, rows in zip(row, inner)])


def page_of_inline(inline, rows):
    """The page of an inline, given those of the rows in it."""
    word = inline[0]
    if word == "text":
        return escaped(inline[1])
    if word == "code":
        return "<code>" + escaped(inline[1]) + "</code>"
    if word == "soft":
        return "\n"
    if word == "hard":
        return "<br />\n"
    if word == "html":
        return inline[1]
    if word == "emph":
        return "<em>" + rows[0] + "</em>"
    if word == "strong":
        return "<strong>" + rows[0] + "</strong>"
    return page_of_link(inline, rows[0])


def page_of_link(inline, inner):
    """The page of a link or an image, given that of the inlines in it."""
    word, destination, title, row = inline
    told = ""
    if title is not None and title != "":
        told = ' title="' + escaped(title) + '"'
    if word == "link":
        return '<a href="' + escaped(destination) + '"' + told + ">" + inner + "</a>"
    return '<img src="' + escaped(destination) + '" alt="' + escaped(words(row)) + '"' + told + " />"


def row_words(row, inner):
    """The words of a row of inlines, given those of the rows in them."""
    return "".join([words_of_inline(inline, rows) for inline, rows in zip(row, inner)])


def words_of_inline(inline, rows):
    """The words of an inline, given those of the rows in it."""
    word = inline[0]
    if word in ("text", "code"):
        return inline[1]
    if word in ("soft", "hard"):
        return " "
    return "".join(rows)
