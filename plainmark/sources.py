"""What is passed as a text, as a line or as an integer."""

from plainmark.errors import NoSource


def check_source(text):
    """Raise an error for what is no text."""
    if not isinstance(text, str):
        raise NoSource(-1)


def check_line(line):
    """Raise an error for what is no text, and for a text with a line feed."""
    check_source(line)
    place = line.find("\n")
    if place >= 0:
        raise NoSource(place)


def is_integer_to(least, most, thing):
    """Whether any object is an integer within bounds."""
    return isinstance(thing, int) and not isinstance(thing, bool) and least <= thing <= most
