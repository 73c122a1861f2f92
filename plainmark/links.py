"""What links and definitions are made of: labels, destinations and titles."""

from plainmark.errors import NoLabel
from plainmark.places import INLINE_WHITE, behind_gap, first_plain
from plainmark.references import decoded

LONGEST_LABEL = 999
MOST_BRACKETS = 32
BARE_ENDS = " \t\n()"

# For the sign with which a title begins: what it has only behind a backslash,
# and the sign with which it ends.
TITLE_SIGNS = {'"': ('"', '"'), "'": ("'", "'"), "(": ("()", ")")}


def normalised(text):
    """The normalised label of a label's text."""
    if not is_label_text(text):
        raise NoLabel()
    return " ".join(text.lower().split())


def is_label_text(thing):
    """Whether any object is the text of a label."""
    return isinstance(thing, str) and label_at("[" + thing + "]", 0) == (len(thing) + 2, thing)


def is_label(thing):
    """Whether any object is what some label's text is normalised to."""
    if not isinstance(thing, str) or " ".join(thing.lower().split()) != thing:
        return False
    # With a backslash at its end it is no label's text, but that of one with a blank behind it.
    return is_label_text(thing) or is_label_text(thing + " ")


def label_at(text, place):
    """A tuple (place behind, label's text) for the label at a place, or None."""
    if not text.startswith("[", place):
        return None
    end = first_plain("[]", text, place + 1)
    words = text[place + 1:end]
    if not text.startswith("]", end) or len(words) > LONGEST_LABEL:
        return None
    if words.strip(INLINE_WHITE) == "":
        return None
    return (end + 1, words)


def target_at(text, place):
    """A tuple (place behind, destination, title) for a target in round brackets, or None."""
    if not text.startswith("(", place):
        return None
    end = behind_gap(text, place + 1)
    destination, title = "", None
    target = destination_at(text, end)
    if target is not None:
        behind, destination = target
        end = behind_gap(text, behind)
        if end > behind:
            end, title = title_or_none(text, end)
    if not text.startswith(")", end):
        return None
    return (end + 1, destination, title)


def title_or_none(text, place):
    """A tuple (place behind, title) for a title and a gap, (place, None) if there is no title."""
    found = title_at(text, place)
    if found is None:
        return (place, None)
    end, title = found
    return (behind_gap(text, end), title)


def destination_at(text, place):
    """A tuple (place behind, destination) for the one at a place, or None."""
    if text.startswith("<", place):
        return enclosed_at("<>\n", ">", text, place)
    end = behind_bare(text, place)
    if end is None or end == place:
        return None
    return (end, decoded(text[place:end]))


def title_at(text, place):
    """A tuple (place behind, title) for the title at a place, or None."""
    sign = text[place:place + 1]
    if sign not in TITLE_SIGNS:
        return None
    barred, closing = TITLE_SIGNS[sign]
    return enclosed_at(barred, closing, text, place)


def enclosed_at(barred, closing, text, place):
    """A tuple (place behind, decoded words) for words between two signs, or None.

    The barred signs stand within only where a backslash makes them texts.
    """
    end = first_plain(barred, text, place + 1)
    if not text.startswith(closing, end):
        return None
    return (end + 1, decoded(text[place + 1:end]))


def behind_bare(text, place):
    """The place behind a destination without "<", or None if its brackets are wrong."""
    within = 0
    end = first_plain(BARE_ENDS, text, place)
    while text.startswith("(", end) or within > 0 and text.startswith(")", end):
        if text[end] == "(":
            within += 1
        else:
            within -= 1
        if within > MOST_BRACKETS:
            return None
        end = first_plain(BARE_ENDS, text, end + 1)
    if within > 0:
        return None
    return end
