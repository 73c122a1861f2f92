"""Links that are written as an address between "<" and ">"."""

from plainmark.places import behind_all
from plainmark.tags import is_letter

SCHEME_SIGNS = "abcdefghijklmnopqrstuvwxyzABCDEFGHIJKLMNOPQRSTUVWXYZ0123456789+.-"
LOCAL_SIGNS = "abcdefghijklmnopqrstuvwxyzABCDEFGHIJKLMNOPQRSTUVWXYZ0123456789.!#$&'*+/=?^_`{|}~-"
PART_SIGNS = "abcdefghijklmnopqrstuvwxyzABCDEFGHIJKLMNOPQRSTUVWXYZ0123456789-"
# What stands in no such link, but for the ">" behind it.
ENDS = " \t\n<>"
SHORTEST_SCHEME = 2
LONGEST_SCHEME = 32
LONGEST_PART = 63


def autolink_at(text, place):
    """A tuple (place behind, destination, words) for the one at a place, or None."""
    end = place + 1
    while end < len(text) and text[end] not in ENDS:
        end += 1
    if not text.startswith("<", place) or not text.startswith(">", end):
        return None
    words = text[place + 1:end]
    if begins_with_scheme(words):
        return (end + 1, words, words)
    if is_address(words):
        return (end + 1, "mailto:" + words, words)
    return None


def begins_with_scheme(words):
    """Whether a scheme and ":" stand at the begin of words."""
    length = behind_all(SCHEME_SIGNS, words, 0)
    fits = SHORTEST_SCHEME <= length <= LONGEST_SCHEME
    return fits and is_letter(words, 0) and words.startswith(":", length)


def is_address(words):
    """Whether words are an address."""
    at = behind_all(LOCAL_SIGNS, words, 0)
    if at == 0 or not words.startswith("@", at):
        return False
    return all([is_part(part) for part in words[at + 1:].split(".")])


def is_part(words):
    """Whether words are a part of an address, between its dots."""
    if len(words) < 1 or len(words) > LONGEST_PART or behind_all(PART_SIGNS, words, 0) < len(words):
        return False
    return words[0] != "-" and words[-1] != "-"
