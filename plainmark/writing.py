"""Trees written back to texts, and texts without backslashes that they do not need."""

from plainmark.block_texts import tree_text
from plainmark.errors import NoText, NoTree
from plainmark.reading import read
from plainmark.sources import check_source
from plainmark.trees import is_tree
from plainmark.trims import without_backslashes


def written(tree):
    """A text that is read as a tree."""
    if not is_tree(tree):
        raise NoTree()
    text = tree_text(tree)
    if read(text) != tree:
        raise NoText()
    return text


def trimmed(text):
    """A text without the backslashes without which the same tree is read."""
    check_source(text)
    return without_backslashes(text)
