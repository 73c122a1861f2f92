"""What may begin with a line, told by its signs behind the indent."""

from plainmark.columns import WHITE, indent, is_blank, taken
from plainmark.places import behind_all
from plainmark.references import decoded

FIGURES = "0123456789"
MOST_FIGURES = 9
MOST_LEVELS = 6
SHORTEST_ROW = 3
# With more blank columns than this ahead, nothing but code begins.
MOST_INDENT = 3
UNDERLINES = {"=": 1, "-": 2}


def words_of(rest):
    """What stands behind the indent of a rest."""
    return rest[0].lstrip(WHITE)


def behind_sign_of_quote(rest):
    """The rest behind the sign of a quote, None if no such sign stands there."""
    wide = indent(rest)
    if wide > MOST_INDENT or not words_of(rest).startswith(">"):
        return None
    text, column, _ = taken(rest, wide)
    behind = (text[1:], column + 1, 0)
    return taken(behind, min(1, indent(behind)))


def heading_of(words):
    """A tuple (level, raw text) for a heading, or None."""
    level = behind_all("#", words, 0)
    if level < 1 or level > MOST_LEVELS or not is_blank(words[level:level + 1]):
        return None
    raw = words[level:].strip(WHITE)
    open_end = raw.rstrip("#")
    if is_blank(open_end[-1:]):
        raw = open_end.rstrip(WHITE)
    return (level, raw)


def fence_of(words):
    """A tuple (sign, length, info) for the begin of a fenced code, or None."""
    sign = words[:1]
    if sign not in ("`", "~"):
        return None
    length = behind_all(sign, words, 0)
    behind = words[length:]
    if length < SHORTEST_ROW or sign == "`" and "`" in behind:
        return None
    return (sign, length, decoded(behind.strip(WHITE)))


def is_fence_end(sign, length, rest):
    """Whether a fence of this sign and length ends with a rest."""
    row = words_of(rest).rstrip(WHITE)
    return indent(rest) <= MOST_INDENT and len(row) >= length and row == sign * len(row)


def level_of_underline(words):
    """The level that a heading has by this underline, 0 if it is none."""
    row = words.rstrip(WHITE)
    sign = row[:1]
    if sign not in UNDERLINES or row != sign * len(row):
        return 0
    return UNDERLINES[sign]


def is_break(words):
    """Whether this is a line across."""
    row = words.replace(" ", "").replace("\t", "")
    sign = row[:1]
    return sign in ("*", "-", "_") and len(row) >= SHORTEST_ROW and row == sign * len(row)


def mark_of(words):
    """A tuple (length, sign, value) for the mark of an item, or None.

    The value is None for a mark without a number.
    """
    length = behind_all(FIGURES, words, 0)
    sign = words[length:length + 1]
    if not is_blank(words[length + 1:length + 2]):
        return None
    if length == 0 and sign in ("-", "+", "*"):
        return (1, sign, None)
    if 1 <= length <= MOST_FIGURES and sign in (".", ")"):
        return (length + 1, sign, int(words[:length]))
    return None
