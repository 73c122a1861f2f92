"""Going on in a text: places behind, or of, what stands from a place on."""

INLINE_WHITE = " \t\n"
ALLOWED = (
    "\t\n !\"#$&'()*+,-./0123456789:;<=>?@"
    "ABCDEFGHIJKLMNOPQRSTUVWXYZ[\\]^_`abcdefghijklmnopqrstuvwxyz{|}~"
)
PUNCTUATION = "!\"#$&'()*+,-./:;<=>?@[\\]^_{|}~`"


def behind_all(signs, text, place):
    """The place behind as many of some signs as stand at a place."""
    while place < len(text) and text[place] in signs:
        place += 1
    return place


def behind_gap(text, place):
    """The place behind the gap at a place, the place itself if none is there."""
    end = behind_all(INLINE_WHITE, text, place)
    if text.count("\n", place, end) > 1:
        return place
    return end


def behind_first(words, text, place):
    """The place behind the first such words from a place on, or None."""
    found = text.find(words, place)
    if found < 0:
        return None
    return found + len(words)


def behind_sign(sign, text, place):
    """The place behind a sign if it stands at a place, or None."""
    if text.startswith(sign, place):
        return place + 1
    return None


def is_escape(text, place):
    """Whether a backslash at a place makes the sign behind it a text."""
    return text.startswith("\\", place) and place + 1 < len(text) and text[place + 1] in PUNCTUATION


def first_plain(signs, text, place):
    """The place of the first of some signs that no backslash makes a text.

    If there is none from a place on, it is the end of the text.
    """
    while place < len(text) and text[place] not in signs:
        if is_escape(text, place):
            place += 1
        place += 1
    return place


def strings_in(text):
    """A dict from lengths to the places of the strings of backquotes in a text."""
    strings = {}
    place = text.find("`")
    while place >= 0:
        end = behind_all("`", text, place)
        strings.setdefault(end - place, []).append(place)
        place = text.find("`", end)
    return strings
