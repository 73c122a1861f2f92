"""Edits of the lines of a text: what is read anew, and what stays."""

from plainmark.blocks import outline, spans
from plainmark.columns import lines_of
from plainmark.definitions import definitions
from plainmark.errors import NoEdit
from plainmark.reading import read
from plainmark.sources import check_source, is_integer_to
from plainmark.steps import reading_of, states_of


def edited(text, edit):
    """The text that an edit makes of a text."""
    check_edit(text, edit)
    first, many, lines = edit
    old = lines_of(text)
    return "".join([line + "\n" for line in old[:first] + list(lines) + old[first + many:]])


def back(text, edit):
    """The edit that gives the old lines again."""
    check_edit(text, edit)
    first, many, lines = edit
    return (first, len(lines), lines_of(text)[first:first + many])


def least_edit(text, other):
    """The edit that turns the lines of a text into those of another one."""
    check_source(text)
    check_source(other)
    old, new = lines_of(text), lines_of(other)
    first = number_alike(old, new)
    behind = number_alike(old[first:][::-1], new[first:][::-1])
    return (first, len(old) - first - behind, new[first:len(new) - behind])


def reread(text, edit):
    """A tuple (begin, old end, new end, do they meet) of the lines that are read anew."""
    other = edited(text, edit)
    begin, many, lines = least_edit(text, other)
    old, new = states_of(lines_of(text)), states_of(lines_of(other))
    old_end, new_end = begin + many, begin + len(lines)
    while old_end < len(old) and old[old_end] != new[new_end]:
        old_end += 1
        new_end += 1
    if old_end < len(old):
        return (begin, old_end, new_end, True)
    return (begin, len(old) - 1, len(new) - 1, False)


def stays(text, edit):
    """A tuple of the numbers of blocks that stay, ahead and behind."""
    begin, old_end = reread(text, edit)[:2]
    ahead = reading_of(lines_of(text)[:begin]).number_ended()
    # If the states do not meet, the old end is that of the text: so nothing begins there.
    behind = [span for span in spans(text) if len(span[0]) == 1 and span[2] >= old_end]
    return (ahead, len(behind))


def changed_labels(text, edit):
    """The sorted list of the labels that do not mean the same in both texts."""
    other = edited(text, edit)
    old, new = definitions(outline(text)), definitions(outline(other))
    labels = {**old, **new}
    return sorted([label for label in labels if old.get(label) != new.get(label)])


def felt(text, edit):
    """The list of the indexes of the blocks that stay, but with other inlines."""
    ahead, behind = stays(text, edit)
    old, new = read(text), read(edited(text, edit))
    # The blocks behind have other indexes in the old document.
    earlier = len(new) - len(old)
    felt_ahead = [index for index in range(ahead) if new[index] != old[index]]
    felt_behind = [index for index in range(len(new) - behind, len(new)) if new[index] != old[index - earlier]]
    return felt_ahead + felt_behind


def check_edit(text, edit):
    """Raise an error for what is no text, or no edit of it."""
    check_source(text)
    wrong = wrong_index(len(lines_of(text)), edit)
    if wrong is not None:
        raise NoEdit(wrong)


def wrong_index(many_lines, edit):
    """What is wrong in an edit of so many lines: -1, an index, or None."""
    if not isinstance(edit, tuple) or len(edit) != 3:
        return -1
    first, many, lines = edit
    if not is_integer_to(0, many_lines, first):
        return 0
    if not is_integer_to(0, many_lines - first, many):
        return 1
    if not isinstance(lines, (list, tuple)) or not all([is_line(line) for line in lines]):
        return 2
    return None


def is_line(thing):
    """Whether any object is a string without a line feed."""
    return isinstance(thing, str) and "\n" not in thing


def number_alike(row, other):
    """The number of the things at the begin of two rows that are the same in both."""
    many = 0
    while many < min(len(row), len(other)) and row[many] == other[many]:
        many += 1
    return many
