"""The inlines of a content."""

from plainmark.errors import NoDefinitions
from plainmark.links import is_label
from plainmark.scans import scanned
from plainmark.sources import check_source


def inlines(content, known=None):
    """The tuple of the inlines of a content, with these definitions."""
    check_source(content)
    if known is None:
        known = {}
    if not is_known(known):
        raise NoDefinitions()
    return scanned(content, known)


def is_known(thing):
    """Whether any object is a dict of definitions."""
    if not isinstance(thing, dict):
        return False
    return all([is_label(label) and is_target(thing[label]) for label in thing])


def is_target(thing):
    """Whether any object is a tuple of a destination and a title."""
    if not isinstance(thing, tuple) or len(thing) != 2:
        return False
    destination, title = thing
    return isinstance(destination, str) and (title is None or isinstance(title, str))
